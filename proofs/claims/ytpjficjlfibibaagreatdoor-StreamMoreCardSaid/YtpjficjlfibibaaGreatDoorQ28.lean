/-
  Parts of the proof: Flt12, Src, Rgt1, Rgt2.
-/
import Derived.Deep.DeepCutAuto
import Derived.Deep.CutBlock
import Derived.Test.YtpjficjlfibibaaGreatDoorQ27
import Derived.Deep.RegionLaw
import Derived.StillTailTactics
import Derived.Test.YtpjficjlfibibaaGreatDoorQ11
import Derived.Test.YtpjficjlfibibaaGreatDoorQ05
import Derived.Deep.RegionHeld3
import Derived.Test.YtpjficjlfibibaaGreatDoorQ09
namespace Go.Proofs.YtpjficjlfibibaaGreatDoor.syn
open Go.RowKit Go.Shelf
set_option linter.unusedVariables false
set_option linter.unusedSimpArgs false
set_option maxRecDepth 100000 in
theorem few_any {W0 w:World} (p:PG) (an ai af ao:Option Addr) (cn ci cf co:Nat) (hp:AP W0 p an ai af ao cn ci cf co) (hok:PgOK p) (mc mi mf mn mx m:Nat) (Lc Li Lf Ln Lx:List (ByteArray × Value)) (hM:Mkr W0 p an ai af ao cn ci cf co mc mi mf mn mx m Lc Li Lf Ln Lx w)
  (xIx fIx iIx:IE) (hX:IxIs Lx xIx) (hF:IxIs Lf fIx) (hI:IxIs Li iIx) (hxb:∀ k j,xIx k = some j → j ≤ 1000) (N:Nat) (e:PE) (way:ByteArray) (ad:Option Addr) (cap:Nat) (hs:SpOK W0 e ad cap way) (s:Nat) (ops:List Op3) (hgo:argGo p.flows p.ins.length xIx fIx iIx N e way [] = some (s,ops)) :
  Calls Tryz.prog 98 #[.pointer (some ⟨m,0,none⟩),spv e ad cap way] w fun x w' => x = .returned (.bool (decide (ops.length ≤ 20))) ∧ Below w.heap.size w w':=by
 have HA:=hid (fun (w':World) (hb:Below w.heap.size w w') => argOf_any p an ai af ao cn ci cf co hp hok mc mi mf mn mx m Lc Li Lf Ln Lx (hM.grow hb) xIx fIx iIx hX hF hI hxb N e way ad cap hs s ops hgo)
 have hfield:∀ (u0 u1:Value) (w:World),(Instr.field 73 (.agg #[u0,u1]) 1).run Tryz.prog w = .ok u1 w:=fun u0 u1 w => by kernel_rfl
 clear hM hp hok hX hF hI hxb hs hgo
 unfold spv at *
 go_enter Tryz.func98,Tryz.ntmps98
 go_wp2_with (go_at_call 103;refine (HA.out _ bq).mono ?_;rintro x w1 ⟨⟨v,rfl,hown⟩,hb1⟩;obtain ⟨ad3,cap3,rfl⟩:=ownR_form hown;clear hown)
 go_ret
 refine ⟨?_,bq⟩
 have h:((ops.length:Int) ≤ 20) ↔ ops.length ≤ 20:=by omega
 simp only [h]
 rfl
theorem cells6x {w:World} {b:Nat} {v0 v1 v2 v3 v4 v5:Value} {t:TypeId} (h:w.heap[b]? = some (.cells #[v0,v1,v2,v3,v4,v5] t (0,0))) :
  (w.cell? ⟨b,0,none⟩ = some v0 ∧ w.cell? ⟨b,1,none⟩ = some v1 ∧ w.cell? ⟨b,2,none⟩ = some v2 ∧ w.cell? ⟨b,3,none⟩ = some v3 ∧ w.cell? ⟨b,4,none⟩ = some v4 ∧ w.cell? ⟨b,5,none⟩ = some v5) ∧ ∀ o,w.frozen? ⟨b,o,none⟩ = false:=by
 refine ⟨⟨?_,?_,?_,?_,?_,?_⟩,?_⟩
 all_goals first | (intro o;simp [World.frozen?,h]) | simp [World.cell?,h]
def OkIt (env:Env) (e:PE):Prop:=∀ x ∈ e :: itemsL e.args,okE env x = true
theorem items_at:∀ (l:PL) (i:Nat) (c:PE),l.at i = some c → ∀ x ∈ c :: itemsL c.args,x ∈ itemsL l
 | .cons k nm n d args a tl,0,c,h,x,hx => by
  injection h with h
  subst h
  simp only [itemsL,List.mem_cons,List.mem_append] at hx ⊢
  rcases hx with hx | hx
  ·exact .inl hx
  ·exact .inr (.inl hx)
 | .cons k nm n d args a tl,i + 1,c,h,x,hx => by
  have:=items_at tl i c h x hx
  simp only [itemsL,List.mem_cons,List.mem_append]
  exact .inr (.inr this)
theorem OkIt.child {env:Env} {e c:PE} {i:Nat} (h:OkIt env e) (hc:e.args.at i = some c):OkIt env c:=fun x hx => h x (List.mem_cons_of_mem _ (items_at _ _ _ hc x hx))
theorem set22 {w:World} {b:Nat} {v0 v1:Value} {t:TypeId} (h:w.heap[b]? = some (.cells #[v0,v1] t (0,0))) (u0 u1:Value):((w.setCell ⟨b,0,none⟩ u0).setCell ⟨b,1,none⟩ u1).heap[b]? = some (.cells #[u0,u1] t (0,0)):=by
 have h0:=heap_setCell_same _ b 0 _ t u0 h
 have h1:=heap_setCell_same _ b 1 _ t u1 h0
 simpa only [sA,sB,sC] using h1
def clk1 (clk:ByteArray → Int × Int) (k:Int) (nm:ByteArray) (n d:Int) (c:Int × Int):Int × Int :=
 if k = 1 then clk nm else if k = 2 then c else ((clock.applyP c.1 c.2 k n d).1,(clock.applyP c.1 c.2 k n d).2.1)
def clkL (clk:ByteArray → Int × Int):PL → Int × Int
 | .nil => (0,0)
 | .cons k nm n d args a tl => clk1 clk k nm n d (clkL clk args)
def clkE (clk:ByteArray → Int × Int) (e:PE):Int × Int:=clk1 clk e.k e.nm e.n e.d (clkL clk e.args)
def clkOf (env:Env) (nm:ByteArray):Int × Int:=(env nm).getD (0,0)
theorem clkL_first (clk:ByteArray → Int × Int) {l:PL} {c:PE} (h:l.at 0 = some c):clkL clk l = clkE clk c:=by
 cases l with
 | nil => cases h
 | cons k nm n d args a tl => cases h;rfl
set_option maxRecDepth 100000 in
set_option maxHeartbeats 4000000 in
theorem clockOf_any {W0:World} (p:PG) (an ai af ao:Option Addr) (cn ci cf co:Nat) (mc mi mf mn mx m:Nat) (Lc Li Lf Ln Lx:List (ByteArray × Value)) (env:Env) (hC:EnvIs Lc env) :
  ∀ (M:Nat) (e:PE),e.args.sz < M → exprOK e = true → ∀ (w:World) (ad:Option Addr) (cap:Nat),AE W0 e ad cap → Mkr W0 p an ai af ao cn ci cf co mc mi mf mn mx m Lc Li Lf Ln Lx w →
   Calls Tryz.prog 143 #[.pointer (some ⟨m,0,none⟩),ev e ad cap] w fun x w' => x = .returned (.agg #[.int .i64 (clkE (clkOf env) e).1,.int .i64 (clkE (clkOf env) e).2]) ∧ Below w.heap.size w w':=by
 intro M
 induction M with
 | zero => intro e h;omega
 | succ M ih =>
  intro e hM hex w ad cap hae hmk
  have hlm:=hmk.lt
  have hlow:=hmk.low
  have hw0:=hlow.size
  obtain ⟨⟨z0,z1,z2,z3,z4,z5,z6,z7,z8⟩,zf⟩:=cells9m (show w.heap[m]? = _ from hmk.box)
  by_cases hk1:e.k = 1
  ·obtain ⟨c,hcc⟩:∃ c,clkOf env e.nm = c:=⟨_,rfl⟩
   have hce:clkE (clkOf env) e = c:=by
    unfold clkE clk1
    rw [if_pos hk1,hcc]
   rw [hce]
   have hg:(getS e.nm Lc).getD (cvv (0,0)) = cvv c:=by
    rw [hC e.nm,← hcc]
    unfold clkOf
    cases env e.nm <;> rfl
   clear hce hcc
   ·skip
    obtain ⟨k,nm,n,d,args,a⟩:=e
    simp only at hk1 hg
    subst hk1
    have HG:=hid hg
    have HC:=hid hmk.c
    unfold ev
    simp only
    clear ih hC hae hmk hg hex
    go_enter Tryz.func143,Tryz.ntmps143
    go_wp2
    obtain ⟨W2,hW2⟩:∃ W2,(w.alloc (.cells #[.int .i64 1,.string nm,.int .i64 n,.int .i64 d,.slice ad args.len cap,.int .i64 a] 95)).alloc (.cells #[.int .i64 0,.int .i64 0] 49) = W2:=⟨_,rfl⟩
    rw [hW2]
    have hB:Below w.heap.size w W2:=by rw [← hW2];exact bq
    have hb0:W2.heap[w.heap.size]? = some (.cells #[.int .i64 1,.string nm,.int .i64 n,.int .i64 d,.slice ad args.len cap,.int .i64 a] 95 (0,0)):=by rw [← hW2];exact (Below.heap_alloc _ _ _ (by simp)).trans (heap_new w _)
    have hb1:W2.heap[w.heap.size + 1]? = some (.cells #[.int .i64 0,.int .i64 0] 49 (0,0)):=by rw [← hW2];simpa using heap_new (w.alloc (.cells #[.int .i64 1,.string nm,.int .i64 n,.int .i64 d,.slice ad args.len cap,.int .i64 a] 95)) (.cells #[.int .i64 0,.int .i64 0] 49)
    have hbm:=(hB.cell (p:=⟨m,4,none⟩) hlm).trans z4
    obtain ⟨⟨x0,x1,x2,x3,x4,x5⟩,xf⟩:=cells6x hb0
    obtain ⟨⟨q0,q1⟩,qf⟩:=cells2 hb1
    have HB:=hid hB
    have HC2:=hid (HC.out.below hB)
    clear hW2 hB hb0 z0 z1 z2 z3 z4 z5 z6 z7 z8 zf
    refine wp_region_still_tail 7 (by kernel_rfl) (by kernel_rfl) ?_
    simp only [List.take_succ_cons,List.take_zero,List.drop_succ_cons,List.drop_zero]
    repeat still_step
    refine still_lookS fclocksMap _ rfl _ _ false rfl mc Lc nm rfl rfl HC2.out (cvv c) ?_ ?_
    ·exact HG.out
    repeat still_step
    try refine wpStill_nil ?_
    change wpList _ _ _ _ _ W2.drew
    unfold cvv
    go_wp2
    refine bodyPost_ret (v:=.agg #[.int .i64 c.1,.int .i64 c.2]) ?_ rfl ⟨rfl,?_⟩
    ·simp only [results,Tryz.results143];go_simp
    ·exact (((HB.out.drew).setCell (p:=⟨w.heap.size + 1,0,none⟩) (Nat.le_add_right _ 1) _).setCell (p:=⟨w.heap.size + 1,1,none⟩) (Nat.le_add_right _ 1) _)
  ·obtain ⟨_,hx2,hx3⟩:=ex_call hex
   have hlen1:0 < e.args.len:=by
    by_cases hk2:e.k = 2
    ·exact hx2 hk2
    ·rw [hx3 hk1 hk2];exact Nat.one_pos
   obtain ⟨c,hc,_⟩:=PL.at_some e.args 0 hlen1
   have hcf:=clkL_first (clkOf env) hc
   obtain ⟨⟨pp,ff⟩,hpf⟩:∃ r,clkE (clkOf env) e = r:=⟨_,rfl⟩
   obtain ⟨⟨p1,f1⟩,hpf1⟩:∃ r,clkE (clkOf env) c = r:=⟨_,rfl⟩
   have hres:(if e.k = 2 then p1 = pp ∧ f1 = ff else (clock.applyP p1 f1 e.k e.n e.d).1 = pp ∧ (clock.applyP p1 f1 e.k e.n e.d).2.1 = ff):=by
    unfold clkE clk1 at hpf
    rw [if_neg hk1,hcf,hpf1] at hpf
    by_cases hk2:e.k = 2
    ·rw [if_pos hk2] at hpf ⊢
     injection hpf with h1 h2
     exact ⟨h1,h2⟩
    ·rw [if_neg hk2] at hpf ⊢
     injection hpf with h1 h2
     exact ⟨h1,h2⟩
   rw [hpf]
   obtain ⟨b,o,rfl,hb,hac⟩:∃ b o,ad = some ⟨b,o,none⟩ ∧ b < W0.heap.size ∧ AC W0 e.args b o:=by
    rcases hae.args with h0 | h0
    ·rw [h0] at hc;cases hc
    ·exact h0
   obtain ⟨ad2,cap2,y0,y1,y2,y3,y4,y5,hae2⟩:=ac_at _ hac 0 c hc
   rw [Nat.zero_mul,Nat.add_zero] at y0 y1 y2 y3 y4 y5
   have hHC:=ih c (by have:=(at_lt _ _ _ hc).2;omega) (ex_child hex hc)
   rw [hpf1] at hHC
   have HC:=hid (fun (w':World) (hb:Below w.heap.size w w') => hHC w' ad2 cap2 hae2 (hmk.grow hb))
   have hl0:(0:Int) < (e.args.len:Int):=by have:=(at_lt _ _ _ hc).1;omega
   have HLOW:=hid hlow
   obtain ⟨k,nm,n,d,args,a⟩:=e
   obtain ⟨k5,nm5,n5,d5,args5,a5⟩:=c
   unfold ev at *
   simp only at hk1 hl0 hres y0 y1 y2 y3 y4 y5 HC ⊢
   have hk1':(k == 1) = false:=beq_eq_false_iff_ne.2 hk1
   have HRES:=hid hres
   have hbw:b < w.heap.size:=by omega
   have e0:=(hlow.cell (p:=⟨b,o,none⟩) hb).trans y0
   have e1:=(hlow.cell (p:=⟨b,o + 1,none⟩) hb).trans y1
   have e2:=(hlow.cell (p:=⟨b,o + 2,none⟩) hb).trans y2
   have e3:=(hlow.cell (p:=⟨b,o + 3,none⟩) hb).trans y3
   have e4:=(hlow.cell (p:=⟨b,o + 4,none⟩) hb).trans y4
   have e5:=(hlow.cell (p:=⟨b,o + 5,none⟩) hb).trans y5
   clear ih hC hae hmk hex hac hae2 hHC hc hres hcf hpf hpf1 hx2 hx3 hlen1 z0 z1 z2 z3 z4 z5 z6 z7 z8 zf y0 y1 y2 y3 y4 y5 hlow
   by_cases hk2:k = 2
   ·subst hk2
    have hr:=HRES.out
    rw [if_pos rfl] at hr
    obtain ⟨rfl,rfl⟩:=hr
    clear HRES
    go_enter Tryz.func143,Tryz.ntmps143
    go_wp2_with (go_at_call 143;refine (HC.out _ bq).mono ?_;rintro x w1 ⟨rfl,hb1⟩;obtain ⟨hc1,hf1⟩:=bcell hb1;have a1:w.heap.size + 1 < w1.heap.size:=sz_of hb1 (by simp))
    refine bodyPost_ret (v:=.agg #[.int .i64 p1,.int .i64 f1]) ?_ rfl ⟨rfl,bq⟩
    simp only [results,Tryz.results143];go_simp
   ·have hk2':(k == 2) = false:=beq_eq_false_iff_ne.2 hk2
    have hr:=HRES.out
    rw [if_neg hk2] at hr
    obtain ⟨r1,r2⟩:=hr
    have HAP:=hid (fun (w':World) => clock.apply_any p1 f1 k n d w')
    obtain ⟨er,her⟩:∃ er,(clock.applyP p1 f1 k n d).2.2 = er:=⟨_,rfl⟩
    have hans:clock.ansT (clock.applyP p1 f1 k n d) = .tuple #[.agg #[.int .i64 pp,.int .i64 ff],.int .i64 er]:=by
     unfold clock.ansT clock.ansC
     rw [her,r1,r2]
    rw [hans] at HAP
    have HOP:=hid (fun (w':World) => operator_any (w:=w') ⟨k,nm,n,d,args,a⟩ (some ⟨b,o,none⟩) cap)
    unfold ev at HOP
    simp only at HOP
    clear HRES r1 r2 hans her
    go_enter Tryz.func143,Tryz.ntmps143
    go_upto_region 6 with fail
    obtain ⟨W2,hW2⟩:∃ W2,(w.alloc (.cells #[.int .i64 k,.string nm,.int .i64 n,.int .i64 d,.slice (some ⟨b,o,none⟩) args.len cap,.int .i64 a] 95)).alloc (.cells #[.int .i64 0,.int .i64 0] 49) = W2:=⟨_,rfl⟩
    rw [hW2]
    have hB:Below w.heap.size w W2:=by rw [← hW2];exact bq
    have hs2:W2.heap.size = w.heap.size + 2:=by rw [← hW2];simp
    have hq0:W2.heap[w.heap.size]? = some (.cells #[.int .i64 k,.string nm,.int .i64 n,.int .i64 d,.slice (some ⟨b,o,none⟩) args.len cap,.int .i64 a] 95 (0,0)):=by rw [← hW2];exact (Below.heap_alloc _ _ _ (by simp)).trans (heap_new w _)
    have hq1:W2.heap[w.heap.size + 1]? = some (.cells #[.int .i64 0,.int .i64 0] 49 (0,0)):=by rw [← hW2];simpa using heap_new (w.alloc (.cells #[.int .i64 k,.string nm,.int .i64 n,.int .i64 d,.slice (some ⟨b,o,none⟩) args.len cap,.int .i64 a] 95)) (.cells #[.int .i64 0,.int .i64 0] 49)
    obtain ⟨⟨x0,x1,x2,x3,x4,x5⟩,xf⟩:=cells6x hq0
    obtain ⟨⟨q0,q1⟩,qf⟩:=cells2 hq1
    have g0:=(hB.cell (p:=⟨b,o,none⟩) hbw).trans e0
    have g1:=(hB.cell (p:=⟨b,o + 1,none⟩) hbw).trans e1
    have g2:=(hB.cell (p:=⟨b,o + 2,none⟩) hbw).trans e2
    have g3:=(hB.cell (p:=⟨b,o + 3,none⟩) hbw).trans e3
    have g4:=(hB.cell (p:=⟨b,o + 4,none⟩) hbw).trans e4
    have g5:=(hB.cell (p:=⟨b,o + 5,none⟩) hbw).trans e5
    have HB:=hid hB
    have lb0:b < W2.heap.size:=by omega
    have lb1:w.heap.size < W2.heap.size:=by omega
    have lb2:w.heap.size + 1 < W2.heap.size:=by omega
    have HQ1:=hid hq1
    clear hW2 hB hq0 hq1 e0 e1 e2 e3 e4 e5 hs2
    have hl0n:0 < args.len:=by omega
    have lb3:b < W2.heap.size + 1:=by omega
    have lb4:w.heap.size < W2.heap.size + 1:=by omega
    have lb5:w.heap.size ≤ W2.heap.size:=by omega
    have lb6:b ≤ W2.heap.size:=by omega
    have hl0m:¬ args.len = 0:=by omega
    go_cut [5] (fun s5 W => Hid (∃ X,s5 = .pointer (some ⟨X,0,none⟩) ∧ W2.heap.size ≤ X ∧ W.heap[X]? = some (.cells #[.int .i64 pp,.int .i64 ff] 49 (0,0)) ∧ Below W2.heap.size W2 W))
    case first =>
     go_region_law (go_simp;first | (go_at_call 143;refine (HC.out _ bq).mono ?_;rintro x w1 ⟨rfl,hb1⟩;have hz_w1:W2.heap.size ≤ w1.heap.size:=(by have h:=hb1.size;first | exact h | (simp at h;omega) | omega);have la_w1:b < w1.heap.size:=oq;have lb_w1:w.heap.size < w1.heap.size:=oq;have kx_w1:=(fun o => hb1.cell (p:=⟨w.heap.size,o,none⟩) (by first | assumption | (simp;done) | (simp;omega) | omega));have ky_w1:=(fun o => hb1.cell (p:=⟨b,o,none⟩) (by first | assumption | (simp;done) | (simp;omega) | omega));first | (have hcb:=(hb1.block _ (lt_of_block hca)).trans hca;clear hca;have hca:=hcb;clear hcb;have hcc:=cells2 hca;obtain ⟨⟨v0,v1⟩,vf⟩:=hcc) | (have hca:w1.heap[W2.heap.size]? = some (.cells #[.int .i64 0,.int .i64 0] 49 (0,0)):=(hb1.block W2.heap.size (by simp)).trans (heap_new W2.drew _);have hcc:=cells2 hca;obtain ⟨⟨v0,v1⟩,vf⟩:=hcc) | (have hca:w1.heap[w3.heap.size]? = some (.cells #[.int .i64 0,.int .i64 0] 49 (0,0)):=(hb1.block w3.heap.size (by simp)).trans (heap_new w3 _);have hcc:=cells2 hca;obtain ⟨⟨v0,v1⟩,vf⟩:=hcc) | skip) | (go_at_call 144;refine (HOP.out _).mono ?_;rintro x w3 ⟨rfl,hb3⟩;have hz_w3:W2.heap.size ≤ w3.heap.size:=(by have h:=hb3.size;first | exact h | (simp at h;omega) | omega);have la_w3:b < w3.heap.size:=oq;have lb_w3:w.heap.size < w3.heap.size:=oq;have kx_w3:=(fun o => hb3.cell (p:=⟨w.heap.size,o,none⟩) (by first | assumption | (simp;done) | (simp;omega) | omega));have ky_w3:=(fun o => hb3.cell (p:=⟨b,o,none⟩) (by first | assumption | (simp;done) | (simp;omega) | omega));first | (have hcb:=(hb3.block _ (lt_of_block hca)).trans hca;clear hca;have hca:=hcb;clear hcb;have hcc:=cells2 hca;obtain ⟨⟨v0,v1⟩,vf⟩:=hcc) | (have hca:w3.heap[W2.heap.size]? = some (.cells #[.int .i64 0,.int .i64 0] 49 (0,0)):=(hb3.block W2.heap.size (by simp)).trans (heap_new W2.drew _);have hcc:=cells2 hca;obtain ⟨⟨v0,v1⟩,vf⟩:=hcc) | (have hca:w3.heap[w1.heap.size]? = some (.cells #[.int .i64 0,.int .i64 0] 49 (0,0)):=(hb3.block w1.heap.size (by simp)).trans (heap_new w1 _);have hcc:=cells2 hca;obtain ⟨⟨v0,v1⟩,vf⟩:=hcc) | skip) | (go_at_call 124;refine (HAP.out _).mono ?_;rintro x w4 ⟨rfl,hb4⟩;have hz_w4:W2.heap.size ≤ w4.heap.size:=(by have h:=hb4.size;first | exact h | (simp at h;omega) | omega);have la_w4:b < w4.heap.size:=oq;have lb_w4:w.heap.size < w4.heap.size:=oq;have kx_w4:=(fun o => hb4.cell (p:=⟨w.heap.size,o,none⟩) (by first | assumption | (simp;done) | (simp;omega) | omega));have ky_w4:=(fun o => hb4.cell (p:=⟨b,o,none⟩) (by first | assumption | (simp;done) | (simp;omega) | omega));first | (have hcb:=(hb4.block _ (lt_of_block hca)).trans hca;clear hca;have hca:=hcb;clear hcb;have hcc:=cells2 hca;obtain ⟨⟨v0,v1⟩,vf⟩:=hcc) | (have hca:w4.heap[W2.heap.size]? = some (.cells #[.int .i64 0,.int .i64 0] 49 (0,0)):=(hb4.block W2.heap.size (by simp)).trans (heap_new W2.drew _);have hcc:=cells2 hca;obtain ⟨⟨v0,v1⟩,vf⟩:=hcc) | (have hca:w4.heap[w1.heap.size]? = some (.cells #[.int .i64 0,.int .i64 0] 49 (0,0)):=(hb4.block w1.heap.size (by simp)).trans (heap_new w1 _);have hcc:=cells2 hca;obtain ⟨⟨v0,v1⟩,vf⟩:=hcc) | (have hca:w4.heap[w3.heap.size]? = some (.cells #[.int .i64 0,.int .i64 0] 49 (0,0)):=(hb4.block w3.heap.size (by simp)).trans (heap_new w3 _);have hcc:=cells2 hca;obtain ⟨⟨v0,v1⟩,vf⟩:=hcc) | skip))
     all_goals
      go_wp2_with fail
      go_meet
      first | exact ⟨_,rfl,(by first | exact Nat.le_refl _ | assumption | (simp;done) | omega),set22 hca _ _,bq⟩ | exact ⟨_,rfl,(by first | exact Nat.le_refl _ | assumption | (simp;done) | omega),heap_new _ _,bq⟩
    case rest =>
     obtain ⟨X,rfl,hX,hXb,hBX⟩:=hcut.out
     clear hcut
     obtain ⟨W3,rfl⟩:∃ W3:World,W3 = wc:=⟨_,rfl⟩
     obtain ⟨⟨r0,r1⟩,rf⟩:=cells2 hXb
     have hq3:=(hBX.block _ lb2).trans HQ1.out
     clear q0 q1 qf x0 x1 x2 x3 x4 x5 xf g0 g1 g2 g3 g4 g5
     obtain ⟨⟨q0,q1⟩,qf⟩:=cells2 hq3
     have HBX:=hid (HB.out.trans (hBX.mono oq))
     clear hq3 hXb hBX
     go_wp2
     refine bodyPost_ret (v:=.agg #[.int .i64 pp,.int .i64 ff]) ?_ rfl ⟨rfl,(HBX.out.setCell (p:=⟨w.heap.size + 1,0,none⟩) (Nat.le_add_right _ 1) _).setCell (p:=⟨w.heap.size + 1,1,none⟩) (Nat.le_add_right _ 1) _⟩
     simp only [results,Tryz.results143];go_simp
open Go.RowKit
set_option maxRecDepth 100000 in
set_option maxHeartbeats 2000000 in
theorem source_any {w:World} (f:FD) (ai an aT al:Option Addr) (ci cn ct cl:Nat) (hf:FAP w f ai an aT al) (i:Int) (hi64:I64 i) :
  Calls Tryz.prog 123 #[fv f ai an aT al ci cn ct cl,.int .i64 i] w fun x w' => x = .returned (srcV (srcP f i)) ∧ Below w.heap.size w w':=by
 have hlens:=hf.lens
 have HF:=hid hf
 unfold I64 at hi64
 clear hf
 unfold fv
 obtain ⟨ans,hans⟩:∃ ans,srcP f i = ans:=⟨_,rfl⟩
 rw [hans]
 go_enter Tryz.func123,Tryz.ntmps123
 go_upto_region 1 with fail
 obtain ⟨W2,hW2⟩:∃ W2,(w.alloc (.cells #[.slice ai f.ins.length ci,.slice an f.nods.length cn,.slice aT f.tasks.length ct,.slice al f.tells.length cl] 36)).alloc (.cells #[.int .i64 0,.int .i64 0] 49) = W2:=⟨_,rfl⟩
 rw [hW2]
 have hB:Below w.heap.size w W2:=by rw [← hW2];exact bq
 have hq0:W2.heap[w.heap.size]? = some (.cells #[.slice ai f.ins.length ci,.slice an f.nods.length cn,.slice aT f.tasks.length ct,.slice al f.tells.length cl] 36 (0,0)):=by rw [← hW2];exact (Below.heap_alloc _ _ _ (by simp)).trans (heap_new w _)
 have hq1:W2.heap[w.heap.size + 1]? = some (.cells #[.int .i64 0,.int .i64 0] 49 (0,0)):=by rw [← hW2];simpa using heap_new (w.alloc (.cells #[.slice ai f.ins.length ci,.slice an f.nods.length cn,.slice aT f.tasks.length ct,.slice al f.tells.length cl] 36)) (.cells #[.int .i64 0,.int .i64 0] 49)
 obtain ⟨⟨x0,x1,x2,x3⟩,xf⟩:=cells4 hq0
 obtain ⟨⟨q0,q1⟩,qf⟩:=cells2 hq1
 have HB:=hid hB
 clear hW2 hB hq0 hq1
 by_cases h0:i < 0
 ·obtain rfl:ans = none:=hans.symm.trans (src_neg h0)
  clear hans
  have h0d:¬ i ≥ 0:=by omega
  go_wp2
  exact bodyPost_ret (v:=srcV none) (by unfold srcV;simp only [results,Tryz.results123];go_simp) rfl ⟨rfl,bq⟩
 ·have h0d:i ≥ 0:=by omega
  by_cases h1:i < (f.ins.length:Int)
  ·obtain ⟨k,rfl⟩:∃ k:Nat,i = (k:Int):=⟨i.toNat,by omega⟩
   have hk:k < f.ins.length:=by omega
   obtain ⟨b,o,rfl,hb,hc0,hc1⟩:=HF.out.ins.at hk
   obtain ⟨⟨pp,ff⟩,hpf⟩:∃ c,f.ins[k] = c:=⟨_,rfl⟩
   obtain rfl:ans = some (pp,ff):=hans.symm.trans ((src_in hk).trans (congrArg some hpf))
   rw [hpf] at hc0 hc1
   simp only at hc0 hc1
   have y0:=(HB.out.cell (p:=⟨b,o + k * 2,none⟩) hb).trans hc0
   have y1:=(HB.out.cell (p:=⟨b,o + k * 2 + 1,none⟩) hb).trans hc1
   have hk0:(0:Int) ≤ (k:Int):=by omega
   clear hc0 hc1 hpf hans
   go_wp2
   exact bodyPost_ret (v:=srcV (some (pp,ff))) (by unfold srcV;simp only [Option.getD_some,Option.isSome_some];simp only [results,Tryz.results123];go_simp) rfl ⟨rfl,bq⟩
  ·have h1d:i ≥ (f.ins.length:Int):=by omega
   by_cases h2:i - (f.ins.length:Int) < (f.tasks.length:Int)
   ·obtain ⟨k,rfl⟩:∃ k:Nat,i = (f.ins.length:Int) + (k:Int):=⟨(i - (f.ins.length:Int)).toNat,by omega⟩
    have hk:k < f.tasks.length:=by omega
    obtain ⟨b,o,rfl,hb,_,hc0,hc1,_⟩:=HF.out.tasks.at hk
    obtain ⟨pp,hpp⟩:∃ c,f.tasks[k].per = c:=⟨_,rfl⟩
    obtain ⟨ff,hff⟩:∃ c,f.tasks[k].ph = c:=⟨_,rfl⟩
    obtain rfl:ans = some (pp,ff):=hans.symm.trans ((src_task hk).trans (by rw [hpp,hff]))
    rw [hpp] at hc0
    rw [hff] at hc1
    have y0:=(HB.out.cell (p:=⟨b,o + k * 4 + 1,none⟩) hb).trans hc0
    have y1:=(HB.out.cell (p:=⟨b,o + k * 4 + 2,none⟩) hb).trans hc1
    have hk0:(0:Int) ≤ (k:Int):=by omega
    have hk1:(k:Int) < (f.tasks.length:Int):=by omega
    have hw1:IntKind.i64.wrap ((f.ins.length:Int) + (k:Int) - (f.ins.length:Int)) = (k:Int):=by rw [show (f.ins.length:Int) + (k:Int) - (f.ins.length:Int) = (k:Int) by omega];exact IntWalk.i64_in _ oq
    have hw2:IntKind.i64.wrap ((f.ins.length:Int) + (f.tasks.length:Int)) = (f.ins.length:Int) + (f.tasks.length:Int):=IntWalk.i64_in _ oq
    have hw3:(f.ins.length:Int) + (k:Int) < (f.ins.length:Int) + (f.tasks.length:Int):=by omega
    clear hc0 hc1 hpp hff hans
    go_wp2
    exact bodyPost_ret (v:=srcV (some (pp,ff))) (by unfold srcV;simp only [Option.getD_some,Option.isSome_some];simp only [results,Tryz.results123];go_simp) rfl ⟨rfl,bq⟩
   ·obtain rfl:ans = none:=hans.symm.trans (src_far h0 h1 h2)
    clear hans
    have hw1:IntKind.i64.wrap (i - (f.ins.length:Int)) = i - (f.ins.length:Int):=IntWalk.i64_in _ oq
    have hw2:IntKind.i64.wrap ((f.ins.length:Int) + (f.tasks.length:Int)) = (f.ins.length:Int) + (f.tasks.length:Int):=IntWalk.i64_in _ oq
    have hw3:¬ i < (f.ins.length:Int) + (f.tasks.length:Int):=by omega
    go_wp2
    exact bodyPost_ret (v:=srcV none) (by unfold srcV;simp only [results,Tryz.results123];go_simp) rfl ⟨rfl,bq⟩
theorem ticks_any {w:World} (n:Int):Calls Tryz.prog 68 #[.int .i64 n] w fun x w' => x = .returned (.bool (decide (1 ≤ n ∧ n ≤ 1000))) ∧ w = w':=by
 by_cases h1:1 ≤ n
 ·by_cases h2:n ≤ 1000
  ·rw [decide_eq_true (And.intro h1 h2)]
   go_enter Tryz.func68,Tryz.ntmps68
   go_wp2
   go_ret
   exact ⟨rfl,rfl⟩
  ·rw [decide_eq_false (fun h => h2 h.2)]
   go_enter Tryz.func68,Tryz.ntmps68
   go_wp2
   go_ret
   exact ⟨rfl,rfl⟩
 ·rw [decide_eq_false (fun h => h1 h.1)]
  go_enter Tryz.func68,Tryz.ntmps68
  go_wp2
  go_ret
  exact ⟨rfl,rfl⟩
theorem ops_cell {w:World} {l:List Op3} {ad:Option Addr} (h:Row OpR 3 w l ad):∀ k,k < l.length → ∃ b off,ad = some ⟨b,off,none⟩ ∧ b < w.heap.size ∧ w.cell? ⟨b,off + k * 3,none⟩ = some (.int .i64 (l.getD k (0,0,0)).1) ∧ w.cell? ⟨b,off + k * 3 + 1,none⟩ = some (.int .i64 (l.getD k (0,0,0)).2.1) ∧ w.cell? ⟨b,off + k * 3 + 2,none⟩ = some (.int .i64 (l.getD k (0,0,0)).2.2):=by
 intro k hk
 obtain ⟨b,o,e,hb,h0,h1,h2⟩:=h.at hk
 have hg:l.getD k (0,0,0) = l[k]:=by rw [List.getD_eq_getElem?_getD,List.getElem?_eq_getElem hk];rfl
 rw [hg]
 exact ⟨b,o,e,hb,h0,h1,h2⟩
theorem allC_any {w:World} (p f:Int) (l:List Op3) (ad:Option Addr) (cap:Nat) (h:Row OpR 3 w l ad) (hl:l.length ≤ 1000) :
  Calls Tryz.prog 126 #[.agg #[.int .i64 p,.int .i64 f],.slice ad l.length cap] w fun x w' => x = .returned (clock.ansT (clock.allP p f l)) ∧ Below w.heap.size w w':=by
 unfold clock.allP
 by_cases hr:1 ≤ p ∧ p ≤ 2000 ∧ 0 ≤ f ∧ f ≤ 2000
 ·rw [if_pos (clock.right_yes hr)]
  exact clock.all_row p f ad cap l w hr oq (ops_cell h)
 ·rw [if_neg (by rw [clock.right_no hr];simp)]
  exact clock.all_wrong p f _ w hr
def fitsP (f:FD) (a:AD) (cp cf:Int):Bool:=match srcP f a.src with
 | none => false
 | some s => decide (a.ops.length ≤ 20) && (decide ((clock.allP s.1 s.2 a.ops).2.2 = 0) && (decide ((clock.allP s.1 s.2 a.ops).1 = cp) && decide ((clock.allP s.1 s.2 a.ops).2.1 = cf)))
set_option maxRecDepth 100000 in
set_option maxHeartbeats 2000000 in
theorem comes_any {w:World} (f:FD) (ai an aT al:Option Addr) (ci cn ct cl:Nat) (hf:FAP w f ai an aT al) (a:AD) (ad:Option Addr) (cap:Nat) (cp cf:Int) (h64:I64 a.src) (hr:Row OpR 3 w a.ops ad) (hl:a.ops.length ≤ 1000) :
  Calls Tryz.prog 70 #[fv f ai an aT al ci cn ct cl,.agg #[.int .i64 a.src,.slice ad a.ops.length cap],.agg #[.int .i64 cp,.int .i64 cf]] w fun x w' => x = .returned (.bool (fitsP f a cp cf)) ∧ Below w.heap.size w w':=by
 have HS:=hid (fun (w':World) (hb:Below w.heap.size w w') => source_any (w:=w') f ai an aT al ci cn ct cl (hf.below hb) a.src h64)
 have HA:=hid (fun (w':World) (hb:Below w.heap.size w w') p q => allC_any (w:=w') p q a.ops ad cap (hr.below opSta hb) hl)
 obtain ⟨ans,hans⟩:∃ ans,fitsP f a cp cf = ans:=⟨_,rfl⟩
 rw [hans]
 unfold fitsP at hans
 clear hf hr h64
 unfold fv at *
 go_enter Tryz.func70,Tryz.ntmps70
 go_upto_region 1 with fail
 obtain ⟨W2,hW2⟩:∃ W2,((w.alloc (.cells #[.slice ai f.ins.length ci,.slice an f.nods.length cn,.slice aT f.tasks.length ct,.slice al f.tells.length cl] 36)).alloc (.cells #[.int .i64 a.src,.slice ad a.ops.length cap] 73)).alloc (.cells #[.int .i64 cp,.int .i64 cf] 49) = W2:=⟨_,rfl⟩
 rw [hW2]
 have hB:Below w.heap.size w W2:=by rw [← hW2];exact bq
 have hs2:w.heap.size + 1 + 1 < W2.heap.size:=by rw [← hW2];simp
 have hq0:W2.heap[w.heap.size]? = some (.cells #[.slice ai f.ins.length ci,.slice an f.nods.length cn,.slice aT f.tasks.length ct,.slice al f.tells.length cl] 36 (0,0)):=by rw [← hW2];exact (Below.heap_alloc _ _ _ (by simp;omega)).trans ((Below.heap_alloc _ _ _ (by simp)).trans (heap_new w _))
 have hq1:W2.heap[w.heap.size + 1]? = some (.cells #[.int .i64 a.src,.slice ad a.ops.length cap] 73 (0,0)):=by rw [← hW2];have:=(Below.heap_alloc _ (.cells #[.int .i64 cp,.int .i64 cf] 49) _ (by simp)).trans (heap_new (w.alloc (.cells #[.slice ai f.ins.length ci,.slice an f.nods.length cn,.slice aT f.tasks.length ct,.slice al f.tells.length cl] 36)) (.cells #[.int .i64 a.src,.slice ad a.ops.length cap] 73));simpa using this
 have hq2:W2.heap[w.heap.size + 1 + 1]? = some (.cells #[.int .i64 cp,.int .i64 cf] 49 (0,0)):=by rw [← hW2];have:=heap_new ((w.alloc (.cells #[.slice ai f.ins.length ci,.slice an f.nods.length cn,.slice aT f.tasks.length ct,.slice al f.tells.length cl] 36)).alloc (.cells #[.int .i64 a.src,.slice ad a.ops.length cap] 73)) (.cells #[.int .i64 cp,.int .i64 cf] 49);simpa using this
 obtain ⟨⟨x0,x1,x2,x3⟩,xf⟩:=cells4 hq0
 obtain ⟨⟨q0,q1⟩,qf⟩:=cells2 hq1
 have HB:=hid hB
 have HQ1:=hid hq1
 have HQ2:=hid hq2
 have hl1:w.heap.size + 1 < W2.heap.size:=by omega
 clear hW2 hB hq0 hq1 hq2
 cases hs:srcP f a.src with
 | none =>
  rw [hs] at HS hans
  simp only at hans
  subst hans
  unfold srcV at HS
  simp only [Option.getD_none,Option.isSome_none] at HS
  go_wp2_with (go_at_call 123;refine (HS.out _ HB.out).mono ?_;rintro x w3 ⟨rfl,hb3⟩;have hz3:W2.heap.size ≤ w3.heap.size:=hb3.size)
  exact bodyPost_ret (v:=.bool false) (by simp only [results,Tryz.results70];go_simp) rfl ⟨rfl,bq⟩
 | some s =>
  obtain ⟨sp,sf⟩:=s
  rw [hs] at HS hans
  simp only at hans
  unfold srcV at HS
  simp only [Option.getD_some,Option.isSome_some] at HS
  by_cases h20:a.ops.length ≤ 20
  ·have h20d:¬ (a.ops.length:Int) > 20:=by omega
   obtain ⟨⟨rp,rf,re⟩,hra⟩:∃ r,clock.allP sp sf a.ops = r:=⟨_,rfl⟩
   have HA2:=hid (fun (w':World) (hb:Below w.heap.size w w') => HA.out w' hb sp sf)
   rw [hra] at HA2 hans
   unfold clock.ansT clock.ansC at HA2
   simp only at HA2 hans
   rw [decide_eq_true h20,Bool.true_and] at hans
   clear HA hra hs
   by_cases hre:re = 0
   ·subst hre
    rw [decide_eq_true rfl,Bool.true_and] at hans
    by_cases h1:rp = cp
    ·subst h1
     rw [decide_eq_true rfl,Bool.true_and] at hans
     by_cases h2:rf = cf
     ·subst h2
      rw [decide_eq_true rfl] at hans
      subst hans
      go_wp2_with (first | (go_at_call 123;refine (HS.out _ HB.out).mono ?_;rintro x w3 ⟨rfl,hb3⟩;have hz3:W2.heap.size ≤ w3.heap.size:=hb3.size;obtain ⟨⟨r0,r1⟩,rf3⟩:=cells2 ((hb3.block _ hl1).trans HQ1.out);have k3:w.heap.size + 1 < w3.heap.size:=oq;have k3n:¬ w.heap.size + 1 = w3.heap.size:=oq;have HB3:=hid hb3) | (go_at_call 126;refine (HA2.out _ bq).mono ?_;rintro x w4 ⟨rfl,hb4⟩;have hz4:w3.heap.size < w4.heap.size:=(by have h:=hb4.size;simp at h;omega);have HC4:=hid ((hb4.block (w.heap.size + 1 + 1) (by simp;omega)).trans ((Below.heap_alloc _ _ _ oq).trans ((HB3.out.block _ hs2).trans HQ2.out)));obtain ⟨⟨t0,t1⟩,tf⟩:=cells2 HC4.out;have k4:w.heap.size + 1 + 1 < w4.heap.size:=oq;have k4n:¬ w.heap.size + 1 + 1 = w4.heap.size:=oq))
      exact bodyPost_ret (v:=.bool true) (by simp only [results,Tryz.results70];go_simp) rfl ⟨rfl,bq⟩
     ·rw [decide_eq_false h2] at hans
      subst hans
      have h2d:(rf == cf) = false:=beq_eq_false_iff_ne.2 h2
      go_wp2_with (first | (go_at_call 123;refine (HS.out _ HB.out).mono ?_;rintro x w3 ⟨rfl,hb3⟩;have hz3:W2.heap.size ≤ w3.heap.size:=hb3.size;obtain ⟨⟨r0,r1⟩,rf3⟩:=cells2 ((hb3.block _ hl1).trans HQ1.out);have k3:w.heap.size + 1 < w3.heap.size:=oq;have k3n:¬ w.heap.size + 1 = w3.heap.size:=oq;have HB3:=hid hb3) | (go_at_call 126;refine (HA2.out _ bq).mono ?_;rintro x w4 ⟨rfl,hb4⟩;have hz4:w3.heap.size < w4.heap.size:=(by have h:=hb4.size;simp at h;omega);have HC4:=hid ((hb4.block (w.heap.size + 1 + 1) (by simp;omega)).trans ((Below.heap_alloc _ _ _ oq).trans ((HB3.out.block _ hs2).trans HQ2.out)));obtain ⟨⟨t0,t1⟩,tf⟩:=cells2 HC4.out;have k4:w.heap.size + 1 + 1 < w4.heap.size:=oq;have k4n:¬ w.heap.size + 1 + 1 = w4.heap.size:=oq))
      exact bodyPost_ret (v:=.bool false) (by simp only [results,Tryz.results70];go_simp) rfl ⟨rfl,bq⟩
    ·rw [decide_eq_false h1,Bool.false_and] at hans
     subst hans
     have h1d:(rp == cp) = false:=beq_eq_false_iff_ne.2 h1
     go_wp2_with (first | (go_at_call 123;refine (HS.out _ HB.out).mono ?_;rintro x w3 ⟨rfl,hb3⟩;have hz3:W2.heap.size ≤ w3.heap.size:=hb3.size;obtain ⟨⟨r0,r1⟩,rf3⟩:=cells2 ((hb3.block _ hl1).trans HQ1.out);have k3:w.heap.size + 1 < w3.heap.size:=oq;have k3n:¬ w.heap.size + 1 = w3.heap.size:=oq;have HB3:=hid hb3) | (go_at_call 126;refine (HA2.out _ bq).mono ?_;rintro x w4 ⟨rfl,hb4⟩;have hz4:w3.heap.size < w4.heap.size:=(by have h:=hb4.size;simp at h;omega);have HC4:=hid ((hb4.block (w.heap.size + 1 + 1) (by simp;omega)).trans ((Below.heap_alloc _ _ _ oq).trans ((HB3.out.block _ hs2).trans HQ2.out)));obtain ⟨⟨t0,t1⟩,tf⟩:=cells2 HC4.out;have k4:w.heap.size + 1 + 1 < w4.heap.size:=oq;have k4n:¬ w.heap.size + 1 + 1 = w4.heap.size:=oq))
     exact bodyPost_ret (v:=.bool false) (by simp only [results,Tryz.results70];go_simp) rfl ⟨rfl,bq⟩
   ·rw [decide_eq_false hre,Bool.false_and] at hans
    subst hans
    have hred:(re == 0) = false:=beq_eq_false_iff_ne.2 hre
    go_wp2_with (first | (go_at_call 123;refine (HS.out _ HB.out).mono ?_;rintro x w3 ⟨rfl,hb3⟩;have hz3:W2.heap.size ≤ w3.heap.size:=hb3.size;obtain ⟨⟨r0,r1⟩,rf3⟩:=cells2 ((hb3.block _ hl1).trans HQ1.out);have k3:w.heap.size + 1 < w3.heap.size:=oq;have k3n:¬ w.heap.size + 1 = w3.heap.size:=oq;have HB3:=hid hb3) | (go_at_call 126;refine (HA2.out _ bq).mono ?_;rintro x w4 ⟨rfl,hb4⟩;have hz4:w3.heap.size < w4.heap.size:=(by have h:=hb4.size;simp at h;omega);have HC4:=hid ((hb4.block (w.heap.size + 1 + 1) (by simp;omega)).trans ((Below.heap_alloc _ _ _ oq).trans ((HB3.out.block _ hs2).trans HQ2.out)));obtain ⟨⟨t0,t1⟩,tf⟩:=cells2 HC4.out;have k4:w.heap.size + 1 + 1 < w4.heap.size:=oq;have k4n:¬ w.heap.size + 1 + 1 = w4.heap.size:=oq))
    exact bodyPost_ret (v:=.bool false) (by simp only [results,Tryz.results70];go_simp) rfl ⟨rfl,bq⟩
  ·have h20d:(a.ops.length:Int) > 20:=by omega
   rw [decide_eq_false h20,Bool.false_and] at hans
   subst hans
   go_wp2_with (go_at_call 123;refine (HS.out _ HB.out).mono ?_;rintro x w3 ⟨rfl,hb3⟩;have hz3:W2.heap.size ≤ w3.heap.size:=hb3.size;obtain ⟨⟨r0,r1⟩,rf3⟩:=cells2 ((hb3.block _ hl1).trans HQ1.out);have k3:w.heap.size + 1 < w3.heap.size:=oq;have k3n:¬ w.heap.size + 1 = w3.heap.size:=oq)
   exact bodyPost_ret (v:=.bool false) (by simp only [results,Tryz.results70];go_simp) rfl ⟨rfl,bq⟩
end Go.Proofs.YtpjficjlfibibaaGreatDoor.syn
