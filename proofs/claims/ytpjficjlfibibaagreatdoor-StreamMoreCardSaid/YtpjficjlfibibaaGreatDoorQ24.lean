/-
  Parts of the proof: RngC, Flt6, Flt7.
-/
import Derived.Test.YtpjficjlfibibaaGreatDoorQ23
namespace Go.Proofs.YtpjficjlfibibaaGreatDoor.syn
open Go.RowKit Go.Shelf
set_option linter.unusedVariables false
set_option linter.unusedSimpArgs false
def SeqC {α:Type} (F:Fence) (n:Nat) (P:Program) (g:Nat) (lb:Array Value) (encs:α → Array Value) (n₀ Bk:Nat) (S Sp:List α → Prop) (N:Nat) (w:World):Prop :=
 ∀ (l:Nat) (J Jx:List α → World → Prop) (W:World),Below w.heap.size w W → OwnFrom W.heap.size J → OwnFrom W.heap.size Jx →
  (∀ pre x W1,J pre W1 → pre.length < N → YieldAt F (n - 1) P l (encs x) W1 fun e W' => (e = .returned (.bool true) ∧ J (pre ++ [x]) W' ∧ KF n₀ Bk W1 W' ∧ KeepsFrom W.heap.size W1 W') ∨ (e = .returned (.bool false) ∧ Jx (pre ++ [x]) W' ∧ KeepsFrom W.heap.size W1 W')) →
  J [] W → CallsIn F n P g (#[.func (.yield l) #[] #[]] ++ lb) W fun e W' => (∃ v,e = .returned v) ∧ ((∃ xs,S xs ∧ J xs W') ∨ (∃ pre,Sp pre ∧ Jx pre W'))
theorem rangeC {α:Type} {F:Fence} {n:Nat} {P:Program} {g:Operand} {ps:Array Tmp} {assign body:Code} {Q:Exit → Act → World → Prop} {a:Act} {w:World} (hro:F.round = none) (h1:1 ≤ n) {gf:Nat} {lb:Array Value}
  (hg:a.eval g = .func (.func gf) #[] lb) (hFg:F.fn gf) (eg:∀ args w,(callFunc gf args).run P w = .ok (.enter gf args) w) {encs:α → Array Value} {n₀ Bk:Nat} (hn:n₀ ≤ w.heap.size) {S Sp:List α → Prop} {N:Nat}
  (hseq:SeqC F (n - 1) P gf lb encs n₀ Bk S Sp N w) (hps:∀ x,(encs x).size = ps.size) (I Ix:List α → World → Prop) (hI:OwnFrom w.heap.size I) (hIx:OwnFrom w.heap.size Ix) (h0:I [] w)
  (Ax:α → Act → World → Prop) (hAx:∀ x a',OwnFrom w.heap.size (fun (_:Unit) W => Ax x a' W))
  (hassign:∀ (l:Nat) (pre:List α) (x:α) (W:World) (K:Act → World → Prop),I pre W → (∀ a' W',Below W.heap.size W W' → I pre W' → Ax x a' W' → K a' W') →
   assign.wpIn (F.inRound l) (n - 1 - 1) P (Exit.then K (fun _ _ _ => False)) { tmps:=(ps.zip (encs x)).foldl (fun t (p,v) => t.setIfInBounds p v) a.tmps,defers:=[] } W)
  (hbody:∀ (l:Nat) (pre:List α) (x:α) (a':Act) (W:World),w.heap.size ≤ l → (∃ r,W.heap[l]? = some (.loop r)) → I pre W → Ax x a' W → pre.length < N →
   body.wpIn (F.inRound l) (n - 1 - 1) P (ownPostG w.heap.size (KF n₀ Bk) I (fun c xs W => c = .ret ∧ Ix xs W) (pre ++ [x]) W) a' W)
  (hdone:∀ (D:Nat) (xs:List α) (W:World),w.heap.size ≤ D → S xs → I xs W → W.heap[D]? = some (.deferred (some [])) → Q .normal { a with defers:=mk D :: a.defers } W)
  (hstop:∀ (D:Nat) (pre:List α) (W:World),w.heap.size ≤ D → Sp pre → Ix pre W → W.heap[D]? = some (.deferred (some [])) → Code.ret.wpIn F n P Q { a with defers:=mk D :: a.defers } W) :
  (Code.rangeFunc g ps assign body).wpIn F n P Q a w:=by
 refine wpIn_rangeFunc (fun fn hfn => ?_)
 rw [hro]
 let R:LoopState → Option Code → Loop:=fun st pe => { state:=st,pending:=pe,fn,tmps:=a.tmps,params:=ps,assign,body,defers:=w.heap.size }
 let W1:World:=(w.alloc (.deferred (some []))).alloc (.loop (R .ready none))
 have hs1:W1.heap.size = w.heap.size + 2:=by simp [W1]
 have hb1:Below w.heap.size w W1:=((Below.refl _ w).alloc (Nat.le_refl _) _).alloc (by simp) _
 have hL:W1.heap[w.heap.size + 1]? = some (.loop (R .ready none)):=by
  have:=World.alloc_heap_new (w.alloc (.deferred (some []))) (.loop (R .ready none))
  rwa [World.size_alloc] at this
 have hD:W1.heap[w.heap.size]? = some (.deferred (some [])):=(Below.heap_alloc _ _ _ (by simp)).trans (World.alloc_heap_new w _)
 refine ⟨w.heap.size + 1,[mk w.heap.size],W1,{ target:=.fn (.func gf) lb,args:=#[.func (.yield (w.heap.size + 1)) #[] #[]] },W1,gf,#[.func (.yield (w.heap.size + 1)) #[] #[]] ++ lb,W1,run_enterLoop_outer _ _ _ _ _,?_,?_,?_,fun _ => h1,?_⟩
 ·simp only [resolve,hg]
  simp [go_sem]
 ·intro f' hf'
  simp [Target.leads] at hf'
  subst hf'
  exact hFg
 ·simp [invoke,go_sem,eg]
 have hrow:∀ {A B:World} {row:Option Nat} {k:Nat} {o:Obj},A.grownBy B row → (∀ r,row = some r → W1.heap.size ≤ r ∧ ∃ o:Obj,A.heap[r]? = some o ∧ o.isCells = false) → k < W1.heap.size → A.heap[k]? = some o → B.heap[k]? = some o:=by
  intro A B row k o hgr hr hk ho
  refine (hgr.block k (Array.getElem?_eq_some_iff.1 ho).1 (fun e => ?_)).trans ho
  have:=(hr k e.symm).1
  omega
 have hlow:∀ {A:World} {row:Option Nat},(∀ r,row = some r → W1.heap.size ≤ r ∧ ∃ o:Obj,A.heap[r]? = some o ∧ o.isCells = false) → (∀ r,row = some r → w.heap.size ≤ r ∧ ∃ o:Obj,A.heap[r]? = some o ∧ o.isCells = false) :=
  fun hr r e => ⟨by have:=(hr r e).1;omega,(hr r e).2⟩
 refine (hseq (w.heap.size + 1) (fun pre W => (I pre W ∧ W.heap[w.heap.size + 1]? = some (.loop (R .ready none))) ∧ W.heap[w.heap.size]? = some (.deferred (some [])))
  (fun pre W => (Ix pre W ∧ W.heap[w.heap.size + 1]? = some (.loop (R .done (some .ret)))) ∧ W.heap[w.heap.size]? = some (.deferred (some []))) W1 hb1
  (fun s A B row hs hgr hr => ⟨⟨hI s A B row hs.1.1 hgr (hlow hr),hrow hgr hr oq hs.1.2⟩,hrow hgr hr oq hs.2⟩)
  (fun s A B row hs hgr hr => ⟨⟨hIx s A B row hs.1.1 hgr (hlow hr),hrow hgr hr oq hs.1.2⟩,hrow hgr hr oq hs.2⟩) ?_ ⟨⟨hI.alloc _ (hI.alloc _ h0),hL⟩,hD⟩).mono ?_
 ·rintro pre x W ⟨⟨hi,hl⟩,hk⟩ hlen
  refine ⟨fn,_,assign,body,run_yield (P:=P) (args:=encs x) hl (hps x),roundIn_of_wpIn hfn (hassign _ pre x W _ hi (fun a' Wa hba hia hax => ?_))⟩
  have hla:=(hba.block _ (Array.getElem?_eq_some_iff.1 hl).1).trans hl
  have hka:=(hba.block _ (Array.getElem?_eq_some_iff.1 hk).1).trans hk
  have hlt:w.heap.size + 1 < Wa.heap.size:=(Array.getElem?_eq_some_iff.1 hla).1
  have hWs:w.heap.size + 1 < W.heap.size:=(Array.getElem?_eq_some_iff.1 hl).1
  refine ⟨_,run_beginRound hla rfl,?_⟩
  have hlb:(Wa.putObj (w.heap.size + 1) (.loop { R .ready none with state:=.busy })).heap[w.heap.size + 1]? = some (.loop { R .ready none with state:=.busy }):=World.putObj_heap_same hlt
  have hkb:(Wa.putObj (w.heap.size + 1) (.loop { R .ready none with state:=.busy })).heap[w.heap.size]? = some (.deferred (some [])):=(World.putObj_heap_other oq).trans hka
  have hKa:KF n₀ Bk W Wa:=(KF.refl n₀ Bk W).of_below hba oq
  have hKb:KF n₀ Bk W (Wa.putObj (w.heap.size + 1) (.loop { R .ready none with state:=.busy })):=hKa.trans (KF.putObj _ _ _ _ oq hla rfl)
  have hfb:KeepsFrom W1.heap.size W (Wa.putObj (w.heap.size + 1) (.loop { R .ready none with state:=.busy })):=⟨by simpa using hba.size,fun k o hk1 hko _ => (World.putObj_heap_other oq).trans ((hba.block k (Array.getElem?_eq_some_iff.1 hko).1).trans hko)⟩
  refine wpIn_mono (hbody _ pre x a' _ oq ⟨_,hlb⟩ (hI.putObj _ hia oq hla rfl) ((hAx x a').putObj (s:=()) _ hax oq hla rfl) hlen) ?_
  rintro e a3 W3 hp
  cases e with
  | normal =>
   obtain ⟨hk3,hkp3,hi3⟩:=hp
   have hl3:=hk3.same _ _ oq hlb rfl
   have hd3:=hk3.same _ _ (Nat.le_refl _) hkb rfl
   refine ⟨_,_,run_endRound (P:=P) none hl3,.inl ⟨rfl,⟨⟨hI.putObj _ hi3 oq hl3 rfl,World.putObj_heap_same (Array.getElem?_eq_some_iff.1 hl3).1⟩,(World.putObj_heap_other oq).trans hd3⟩,(hKb.trans hkp3).trans (KF.putObj _ _ _ _ oq hl3 rfl),?_⟩⟩
   exact ⟨Nat.le_trans (Nat.le_trans hfb.size hk3.size) (by simp),fun k o hk1 hko hc => (World.putObj_heap_other oq).trans (hk3.same _ _ oq (hfb.same k o hk1 hko hc) hc)⟩
  | ret =>
   obtain ⟨hk3,_,hi3⟩:=hp
   have hl3:=hk3.same _ _ oq hlb rfl
   have hd3:=hk3.same _ _ (Nat.le_refl _) hkb rfl
   refine ⟨_,_,run_endRound (P:=P) (some .ret) hl3,.inr ⟨rfl,⟨⟨hIx.putObj _ hi3 oq hl3 rfl,World.putObj_heap_same (Array.getElem?_eq_some_iff.1 hl3).1⟩,(World.putObj_heap_other oq).trans hd3⟩,?_⟩⟩
   exact ⟨Nat.le_trans (Nat.le_trans hfb.size hk3.size) (by simp),fun k o hk1 hko hc => (World.putObj_heap_other oq).trans (hk3.same _ _ oq (hfb.same k o hk1 hko hc) hc)⟩
  | exit id => obtain ⟨_,h,_⟩:=hp;cases h
  | goto t => obtain ⟨_,h,_⟩:=hp;cases h
  | panic ch => exact hp.elim
  | outgrown => exact hp.elim
 ·rintro e W2 ⟨⟨v,rfl⟩,(⟨xs,hS,⟨hi,hl⟩,hk⟩ | ⟨pre,hSp,⟨hi,hl⟩,hk⟩)⟩
  ·exact ⟨none,_,run_endLoop (P:=P) hl (by simp [R]),hdone _ xs _ (Nat.le_refl _) hS (hI.putObj _ hi oq hl rfl) ((World.putObj_heap_other oq).trans hk)⟩
  ·exact ⟨some .ret,_,run_endLoop (P:=P) hl (by simp [R]),hstop _ pre _ (Nat.le_refl _) hSp (hIx.putObj _ hi oq hl rfl) ((World.putObj_heap_other oq).trans hk)⟩
attribute [local go_sem] Oper.semAt_some
def MkB (W:World) (m:Nat) (p:PG) (an ai af ao:Option Addr) (cn ci cf co:Nat) (mc mi mf mn mx:Nat):Prop :=
 W.heap[m]? = some (.cells #[.slice an p.nodes.length cn,.slice ai p.ins.length ci,.slice af p.flows.length cf,.slice ao p.outs.length co,.map (some mc),.map (some mi),.map (some mf),.map (some mn),.map (some mx)] 187 (0,0))
theorem cells9m {w:World} {b:Nat} {v0 v1 v2 v3 v4 v5 v6 v7 v8:Value} {t:TypeId} (h:w.heap[b]? = some (.cells #[v0,v1,v2,v3,v4,v5,v6,v7,v8] t (0,0))) :
  (w.cell? ⟨b,0,none⟩ = some v0 ∧ w.cell? ⟨b,1,none⟩ = some v1 ∧ w.cell? ⟨b,2,none⟩ = some v2 ∧ w.cell? ⟨b,3,none⟩ = some v3 ∧ w.cell? ⟨b,4,none⟩ = some v4 ∧ w.cell? ⟨b,5,none⟩ = some v5 ∧ w.cell? ⟨b,6,none⟩ = some v6 ∧ w.cell? ⟨b,7,none⟩ = some v7 ∧ w.cell? ⟨b,8,none⟩ = some v8) ∧ ∀ o,w.frozen? ⟨b,o,none⟩ = false:=by
 refine ⟨⟨?_,?_,?_,?_,?_,?_,?_,?_,?_⟩,?_⟩
 all_goals first | (intro o;simp [World.frozen?,h]) | simp [World.cell?,h]
theorem fcalls_any {w:World} (m i:Nat):Calls Tryz.prog 97 #[.pointer (some ⟨m,0,none⟩),.int .i64 (i:Int)] w fun x w' =>
  x = .returned (.func (.func 141) #[] #[.pointer (some ⟨w.heap.size,0,none⟩),.pointer (some ⟨w.heap.size + 1,0,none⟩)]) ∧
   w' = (w.alloc (.cells #[.pointer (some ⟨m,0,none⟩)] 120)).alloc (.cells #[.int .i64 (i:Int)] 3):=by
 go_enter Tryz.func97,Tryz.ntmps97
 go_wp2
 go_ret
 exact ⟨rfl,rfl⟩
def isC (s:PE × ByteArray):Bool:=decide (s.1.k = 2)
theorem ownFrom_KF {β:Type} {n₀ Bk:Nat} {W:World} (hn:n₀ ≤ W.heap.size):OwnFrom W.heap.size (fun (_:β) X => KF n₀ Bk W X):=by
 intro s X Y row hs hg hr
 refine ⟨ownFrom_below (β:=Unit) hn hn () X Y row hs.below hg hr,fun k o hb hk hc => ?_⟩
 have h1:=hs.same k o hb hk hc
 refine (hg.block k (Array.getElem?_eq_some_iff.1 h1).1 (fun e => ?_)).trans h1
 obtain ⟨_,o',ho',hc'⟩:=hr k e.symm
 rw [h1] at ho'
 cases ho'
 rw [kept_cells hc] at hc'
 cases hc'
theorem ownMore {β:Type} {B B':Nat} {I:β → World → Prop} (h:OwnFrom B I) (hb:B ≤ B'):OwnFrom B' I:=fun s X Y row hs hg hr => h s X Y row hs hg (fun r e => ⟨Nat.le_trans hb (hr r e).1,(hr r e).2⟩)
set_option maxRecDepth 100000 in
set_option maxHeartbeats 4000000 in
theorem fcalls1_any {W0:World} (p:PG) (an ai af ao:Option Addr) (cn ci cf co:Nat) (hp:AP W0 p an ai af ao cn ci cf co) (hok:PgOK p) (mc mi mf mn mx:Nat) (m B1 B2 i n l Bk:Nat) (hi:i < p.flows.length) (J Jx:List (VS W0) → World → Prop) (W:World)
  (hB:Below W0.heap.size W0 W) (hBk:Bk ≤ W.heap.size) (hm:MkB W m p an ai af ao cn ci cf co mc mi mf mn mx) (hb1:Boxed W B1 120 (.pointer (some ⟨m,0,none⟩))) (hb2:Boxed W B2 3 (.int .i64 (i:Int))) (hJ:OwnFrom W.heap.size J) (hJx:OwnFrom W.heap.size Jx)
  (hY:∀ pre x W1,J pre W1 → pre.length < p.flows[i].e.args.sz + 1 → YieldAt Fence.wide (n - 1) Tryz.prog l (VS.vs x) W1 fun e W' => (e = .returned (.bool true) ∧ J (pre ++ [x]) W' ∧ KF W0.heap.size Bk W1 W' ∧ KeepsFrom W.heap.size W1 W') ∨ (e = .returned (.bool false) ∧ Jx (pre ++ [x]) W' ∧ KeepsFrom W.heap.size W1 W'))
  (h0:J [] W) :
  CallsIn Fence.wide n Tryz.prog 141 #[.func (.yield l) #[] #[],.pointer (some ⟨B1,0,none⟩),.pointer (some ⟨B2,0,none⟩)] W fun e W' => (∃ v,e = .returned v) ∧
   ((∃ xs:List (VS W0),xs.map (·.s) = (spotsE p.flows[i].e (dg i)).filter isC ∧ J xs W') ∨ (∃ pre:List (VS W0),pre.map (·.s) <+: (spotsE p.flows[i].e (dg i)).filter isC ∧ Jx pre W')):=by
 have HFS:=hid (fun (w':World) (hb:Below W0.heap.size W0 w') => flowSpot_any hb p an ai af ao cn ci cf co hp i hi (by have:=hok.lens;omega))
 obtain ⟨hf1,hf2⟩:=hok.flows _ (List.getElem_mem hi)
 obtain ⟨⟨k1,nm1,n1,d1,args1,a1⟩,he⟩:∃ e,p.flows[i].e = e:=⟨_,rfl⟩
 rw [he] at HFS hY hf1 hf2 ⊢
 unfold PE.sz at hf1
 have HG2:=hid hf2
 have hdg:=dg_size (i:=i) (by have:=hok.lens;omega)
 have HY:=hid hY
 have HMB:=hid hm
 have HB:=hid hB
 have HB1:=hid hb1
 have HB2:=hid hb2
 have HJ:=hid hJ
 have HJX:=hid hJx
 have H0:=hid h0
 obtain ⟨⟨x0,x1,x2,x3,x4,x5,x6,x7,x8⟩,xf⟩:=cells9m (show W.heap[m]? = _ from hm)
 have c1:=hb1.cell
 have c2:=hb2.cell
 have hsz:=hB.size
 have hlm:=lt_of_block hm
 have hl1:=hb1.lt
 have hl2:=hb2.lt
 unfold pv spv at HFS
 simp only at HFS hf1
 clear hf2 hY hm hB hb1 hb2 hJ hJx h0 he
 refine (callsIn_wide (n:=n)).2 ((callsIn_wide (n:=6)).1 ?_)
 refine callsIn_of_wp_marks Tryz.func141 rfl trivial ?_ rfl
 simp only [Tryz.ntmps141,List.size_toArray,List.length_cons,List.length_nil,Nat.reduceAdd,Nat.reduceSub,Array.replicate_succ,Array.replicate_zero,List.push_toArray,List.append_toArray,List.nil_append,List.cons_append]
 gi_wp2
 obtain ⟨W3,hW3⟩:∃ W3,W.alloc (.cells #[.func (.yield l) #[] #[]] 190) = W3:=⟨_,rfl⟩
 have hb3:Below W.heap.size W W3:=by rw [← hW3];exact (Below.refl _ _).alloc (Nat.le_refl _) _
 have bY3:Boxed W3 W.heap.size 190 (.func (.yield l) #[] #[]):=by rw [← hW3];exact Boxed.new _ _ _
 have hs3:W3.heap.size = W.heap.size + 1:=by rw [← hW3];simp
 rw [hW3]
 clear hW3 x0 x1 x2 x3 x4 x5 x6 x7 x8 xf c1 c2
 obtain ⟨⟨x0,x1,x2,x3,x4,x5,x6,x7,x8⟩,xf⟩:=cells9m ((hb3.block _ hlm).trans HMB.out)
 have c1:=(show Boxed W3 B1 _ _ from (hb3.block _ hl1).trans HB1.out).cell
 have c2:=(show Boxed W3 B2 _ _ from (hb3.block _ hl2).trans HB2.out).cell
 have HB3:=hid hb3
 have HBY:=hid bY3
 clear hb3 bY3
 refine wpIn_wide.2 ?_
 go_still_tail 5,(by kernel_rfl)
 change wpList _ _ _ _ _ W3.drew
 have hbd:Below W3.heap.size W3 W3.drew:=⟨rfl,rfl,rfl,Nat.le_refl _,fun k _ => rfl⟩
 go_wp2_with (first | (go_at_call 94;refine (HFS.out W3.drew (HB.out.trans ((HB3.out.trans (hbd.mono oq)).mono hsz))).mono ?_;rintro x w4 ⟨⟨ad2,cap2,rfl,hae⟩,hb4⟩) | (go_at_call 93;refine (fwithin_any (w:=w4) ⟨k1,nm1,n1,d1,args1,a1⟩ ad2 cap2 (dg i)).mono ?_;rintro x w5 ⟨rfl,rfl⟩))
 have HSP:=hid (show SpOK W0 ⟨k1,nm1,n1,d1,args1,a1⟩ ad2 cap2 (dg i) from ⟨hae,HG2.out,by show (dg i).size + 3 * args1.sz ≤ 500;omega,by show args1.sz < 100;omega⟩)
 have bX:=heap_new w4 (.cells #[.int .i64 k1,.string nm1,.int .i64 n1,.int .i64 d1,.slice ad2 args1.len cap2,.int .i64 a1,.string (dg i)] 182)
 have hs4:W3.heap.size ≤ w4.heap.size:=hb4.size
 have hb5:Below W3.heap.size W3 (w4.alloc (.cells #[.int .i64 k1,.string nm1,.int .i64 n1,.int .i64 d1,.slice ad2 args1.len cap2,.int .i64 a1,.string (dg i)] 182)):=(hbd.trans (show Below W3.heap.size W3.drew w4 from hb4)).alloc hs4 _
 have hsz1:(w4.alloc (.cells #[.int .i64 k1,.string nm1,.int .i64 n1,.int .i64 d1,.slice ad2 args1.len cap2,.int .i64 a1,.string (dg i)] 182)).heap.size = w4.heap.size + 1:=by simp
 obtain ⟨W5,hW5⟩:∃ W5,w4.alloc (.cells #[.int .i64 k1,.string nm1,.int .i64 n1,.int .i64 d1,.slice ad2 args1.len cap2,.int .i64 a1,.string (dg i)] 182) = W5:=⟨_,rfl⟩
 rw [hW5] at bX hb5 hsz1 ⊢
 have hbW5:Below W.heap.size W W5:=HB3.out.trans (hb5.mono oq)
 have HWL:=hid (show Below W0.heap.size W0 W5 from HB.out.trans (hbW5.mono hsz))
 have HBX:=hid bX
 have HBY5:=hid (show Boxed W5 W.heap.size 190 (.func (.yield l) #[] #[]) from (hb5.block _ oq).trans HBY.out)
 have H05:=hid (show J [] W5 from HJ.out [] W W5 none H0.out ⟨hbW5.os,hbW5.tape,hbW5.output,hbW5.size,fun k hk _ => hbW5.block k hk⟩ (fun r e => by cases e))
 have hn5:W0.heap.size ≤ W5.heap.size:=by omega
 have hn6:W.heap.size ≤ W5.heap.size:=by omega
 clear hW5 hae hb4 bX hb5 hbd x0 x1 x2 x3 x4 x5 x6 x7 x8 xf c1 c2 HFS hbW5
 gi_wp2
 refine wpIn_rangeFunc_ownH (encs:=fun x:VS W0 => #[.agg #[.int .i64 x.s.1.k,.string x.s.1.nm,.int .i64 x.s.1.n,.int .i64 x.s.1.d,.slice x.ad x.s.1.args.len x.cap,.int .i64 x.s.1.a,.string x.s.2]]) rfl oq (gf:=138) (lb:=#[.pointer (some ⟨w4.heap.size,0,none⟩)]) rfl trivial (enters_of Tryz.func138 (by kernel_rfl) rfl)
  (fwithin_stops (W0:=W0) Fence.wide rfl trivial trivial trivial rfl (argIn_wide W0) _ w4.heap.size ⟨k1,nm1,n1,d1,args1,a1⟩ ad2 cap2 (dg i) HSP.out W5 Bk oq HWL.out HBX.out) (fun h k => h.trans k) (fun W l o o' hl h hc _ => KF.putObj W l o o' oq h hc) (Below.refl _ _) (fun _ => rfl)
  (fun pre X => KF W0.heap.size Bk W5 X ∧ ∃ ys:List (VS W0),J ys X ∧ (ys.map (·.s) = (pre.map (·.s)).filter isC ∧ ys.length ≤ pre.length))
  (fun c pre X => c = .ret ∧ ∃ ys:List (VS W0),Jx ys X ∧ ys.map (·.s) = (pre.map (·.s)).filter isC)
  (OwnFrom.and (ownFrom_KF hn5) (fun s X Y row hs hg hr => by obtain ⟨ys,h1,h2⟩:=hs;exact ⟨ys,(ownMore HJ.out hn6) ys X Y row h1 hg hr,h2⟩))
  (fun c s X Y row hs hg hr => by obtain ⟨h0,ys,h1,h2⟩:=hs;exact ⟨h0,ys,(ownMore HJX.out hn6) ys X Y row h1 hg hr,h2⟩)
  ⟨KF.refl _ _ _,[],H05.out,rfl,Nat.le_refl _⟩
  (fun x a' X => ∃ Bx,W5.heap.size ≤ Bx ∧ X.heap[Bx]? = some (.cells #[.int .i64 x.s.1.k,.string x.s.1.nm,.int .i64 x.s.1.n,.int .i64 x.s.1.d,.slice x.ad x.s.1.args.len x.cap,.int .i64 x.s.1.a,.string x.s.2] 182 (0,0)) ∧
   a' = { tmps:=#[.func (.yield l) #[] #[],.pointer (some ⟨B1,0,none⟩),.pointer (some ⟨B2,0,none⟩),.pointer (some ⟨W.heap.size,0,none⟩),.pointer (some ⟨Bx,0,none⟩),.pointer (some ⟨m,0,none⟩),.pointer (some ⟨m,0,none⟩),.pointer (some ⟨m,0,none⟩),.agg #[.slice an p.nodes.length cn,.slice ai p.ins.length ci,.slice af p.flows.length cf,.slice ao p.outs.length co],.int .i64 (i:Int),.agg #[.int .i64 k1,.string nm1,.int .i64 n1,.int .i64 d1,.slice ad2 args1.len cap2,.int .i64 a1,.string (dg i)],.func (.func 138) #[] #[.pointer (some ⟨w4.heap.size,0,none⟩)],.agg #[.int .i64 x.s.1.k,.string x.s.1.nm,.int .i64 x.s.1.n,.int .i64 x.s.1.d,.slice x.ad x.s.1.args.len x.cap,.int .i64 x.s.1.a,.string x.s.2],undef,undef,undef,undef,undef,undef,undef,undef,undef,undef],defers:=[] })
  (fun x a' _ X Y row hs hg hrw => by
   obtain ⟨Bx,h1,h2,h3⟩:=hs
   refine ⟨Bx,h1,(hg.block Bx (Array.getElem?_eq_some_iff.1 h2).1 (fun e => ?_)).trans h2,h3⟩
   obtain ⟨_,o,ho,hc⟩:=hrw Bx e.symm
   rw [h2] at ho;cases ho;cases hc)
  ?assign ?body ?done ?stop
 case assign =>
  rintro l2 pre x X K ⟨hKX,ys,hys,hy2⟩ hK
  gi_wp2
  have hsX:=hKX.below.size
  exact hK _ _ ((KeepsOthers.alloc _ _).from _) ((KF.refl _ _ X).alloc oq _) ⟨hKX.alloc oq _,ys,HJ.out ys X _ none hys (World.grownBy_alloc X _ none) (fun r e => by cases e),hy2⟩ ⟨X.heap.size,hsX,heap_new X _,rfl⟩
 case body =>
  rintro l2 pre ⟨⟨⟨k2,nm2,n2,d2,args2,a2⟩,way2⟩,ad3,cap3,hok⟩ a' X hl2' ⟨r,hr⟩ ⟨hKX,ys,hys,hy2,hy3⟩ ⟨Bx,hBx,hxb,rfl⟩ hlt2
  simp only at hxb
  obtain ⟨⟨x0,x1,x2,x3,x4,x5,x6⟩,xf⟩:=cells7s hxb
  have hsX:W5.heap.size ≤ X.heap.size:=hKX.below.size
  have cY:=(show Boxed X W.heap.size _ _ from hKX.same _ _ hBk HBY5.out rfl).cell
  obtain ⟨V,hV1,hV2⟩:∃ V:VS W0,V = ⟨(⟨k2,nm2,n2,d2,args2,a2⟩,way2),ad3,cap3,hok⟩ ∧ V.vs = #[.agg #[.int .i64 k2,.string nm2,.int .i64 n2,.int .i64 d2,.slice ad3 args2.len cap3,.int .i64 a2,.string way2]]:=⟨_,rfl,rfl⟩
  rw [← hV1]
  by_cases hk2:k2 = 2
  ·subst hk2
   have hsel:isC V.s = true:=by rw [hV1];rfl
   have hlt3:pre.length < args1.sz + 1:=hlt2
   obtain ⟨fn,tmps,assign,body,hy,hR⟩:=YieldAt.deep (F:=Fence.wide) rfl 3 (HY.out ys V X hys (by show ys.length < args1.sz + 1;omega))
   rw [hV2] at hy
   have HR:=hid hR
   have HKX:=hid hKX
   clear hR hr hxb hKX hlt2
   gi_wp2
   refine RoundIn.mono (show RoundIn (Fence.wide.inRound l2) 3 _ _ _ _ _ _ _ _ from HR.out) ?_
   rintro e w7 (⟨rfl,hJ7,hk7,hf7⟩ | ⟨rfl,hJ7,hf7⟩)
   ·gi_wp2
    exact ⟨⟨hf7.size,fun k o hk ho hc => hf7.same k o oq ho hc⟩,hk7,HKX.out.trans hk7,ys ++ [V],hJ7,by rw [List.map_append,List.map_append,List.filter_append,hy2];simp [hsel],by simp;omega⟩
   ·gi_wp2
    exact ⟨⟨hf7.size,fun k o hk ho hc => hf7.same k o oq ho hc⟩,rfl,ys ++ [V],hJ7,by rw [List.map_append,List.map_append,List.filter_append,hy2];simp [hsel]⟩
  ·have hk2':(k2 == 2) = false:=beq_eq_false_iff_ne.2 hk2
   have hsel:isC V.s = false:=by rw [hV1];exact decide_eq_false hk2
   gi_wp2
   repeat (refine ⟨(fun (f:FuncId) (h:none = some f) => by cases h),?_⟩;gi_wp2)
   exact ⟨KeepsFrom.refl _ _,KF.refl _ _ _,hKX,ys,hys,by rw [List.map_append,List.filter_append,hy2];simp [hsel],by simp;omega⟩
 case done =>
  rintro D zs X hD hzs ⟨hKX,ys,hys,hy2,hy3⟩ hK
  gi_wp2
  refine ⟨by simp,.inl ⟨_,_,rfl,run_takeDeferred hK,?_⟩⟩
  refine ⟨_,results_none rfl _ _ _,⟨_,rfl⟩,.inl ⟨ys,by rw [hy2,hzs],HJ.out.putObj _ hys oq hK rfl⟩⟩
 case stop =>
  rintro D c pre X hD hpre ⟨rfl,ys,hys,hy2⟩ hK
  gi_wp2
  refine ⟨by simp,.inl ⟨_,_,rfl,run_takeDeferred hK,?_⟩⟩
  refine ⟨_,results_none rfl _ _ _,⟨_,rfl⟩,.inr ⟨ys,?_,HJX.out.putObj _ hys oq hK rfl⟩⟩
  rw [hy2]
  exact hpre.filter _
theorem fclocksMap:StrMap 114 9 49 (.agg #[.int .i64 0,.int .i64 0]):=⟨by kernel_rfl,by kernel_rfl,fun w => by kernel_rfl,fun b s w => by cases b <;> kernel_rfl⟩
theorem fintsMap:StrMap 184 9 3 (.int .i64 0):=⟨by kernel_rfl,by kernel_rfl,fun w => by kernel_rfl,fun b s w => by cases b <;> kernel_rfl⟩
theorem waysMap:StrMap 185 180 3 (.int .i64 0):=⟨by kernel_rfl,by kernel_rfl,fun w => by kernel_rfl,fun b s w => by cases b <;> kernel_rfl⟩
abbrev IE:=ByteArray → Option Nat
def updI (e:IE) (k:ByteArray) (j:Nat):IE:=fun nm => if nm = k then some j else e nm
def inI:List ByteArray → Nat → IE → IE
 | [],_,e => e
 | k :: l,i,e => inI l (i + 1) (updI e k i)
def IxIs (L:List (ByteArray × Value)) (e:IE):Prop:=∀ nm,getS nm L = (e nm).map (fun j => .int .i64 (j:Int))
theorem IxIs.nil:IxIs [] (fun _ => none):=fun _ => rfl
theorem IxIs.put {L:List (ByteArray × Value)} {e:IE} (h:IxIs L e) (k:ByteArray) (j:Nat):IxIs (putS k (.int .i64 (j:Int)) L) (updI e k j):=by
 intro nm
 rw [getS_put]
 unfold updI
 by_cases hk:nm = k
 ·rw [if_pos hk,if_pos hk];rfl
 ·rw [if_neg hk,if_neg hk];exact h nm
theorem inI_some:∀ (l:List ByteArray) (i:Nat) (e:IE) (nm:ByteArray) (j:Nat),inI l i e nm = some j → (∃ h:j - i < l.length,i ≤ j ∧ l[j - i] = nm) ∨ e nm = some j
 | [],i,e,nm,j,h => .inr h
 | k :: l,i,e,nm,j,h => by
  rcases inI_some l (i + 1) (updI e k i) nm j h with ⟨h1,h2,h3⟩ | h1
  ·refine .inl ⟨by simp only [List.length_cons];omega,by omega,?_⟩
   have he:j - i = (j - (i + 1)) + 1:=by omega
   simp only [he,List.getElem_cons_succ]
   exact h3
  ·unfold updI at h1
   by_cases hk:nm = k
   ·rw [if_pos hk] at h1
    injection h1 with h1
    subst h1
    refine .inl ⟨by simp,Nat.le_refl _,?_⟩
    simp [hk]
   ·rw [if_neg hk] at h1
    exact .inr h1
theorem inI_keeps:∀ (l:List ByteArray) (i:Nat) (e:IE) (nm:ByteArray),e nm ≠ none → inI l i e nm ≠ none
 | [],i,e,nm,h => h
 | k :: l,i,e,nm,h => inI_keeps l (i + 1) (updI e k i) nm (by
  unfold updI
  by_cases hk:nm = k
  ·rw [if_pos hk];exact Option.some_ne_none _
  ·rw [if_neg hk];exact h)
theorem inI_known:∀ (l:List ByteArray) (i:Nat) (e:IE) (nm:ByteArray),nm ∈ l → inI l i e nm ≠ none
 | k :: l,i,e,nm,h => by
  rcases List.mem_cons.1 h with rfl | h
  ·refine inI_keeps l (i + 1) _ nm ?_
   unfold updI
   rw [if_pos rfl]
   exact Option.some_ne_none _
  ·exact inI_known l (i + 1) _ nm h
def flEnv (env':Env):List FL → Env → Env
 | [],e => e
 | f :: l,e => flEnv env' l (upd e f.nm (clkAt env' f.nm))
structure MkS (W0:World) (n:Nat) (mk:Obj) (mc mi mf mn mx m:Nat) (W:World) (Lc Li Lf Ln:List (ByteArray × Value)):Prop where
 low:Below n W0 W
 ord:n ≤ mc ∧ mc < mi ∧ mi < mf ∧ mf < mn ∧ mn < mx ∧ mx < m
 box:W.heap[m]? = some mk
 c:MapS W mc Lc
 i:MapS W mi Li
 f:MapS W mf Lf
 nd:MapS W mn Ln
 x:MapS W mx []
section
variable {W0:World} {n:Nat} {mk:Obj} {mc mi mf mn mx m:Nat} {W W':World} {Lc Li Lf Ln:List (ByteArray × Value)}
theorem MkS.lt (h:MkS W0 n mk mc mi mf mn mx m W Lc Li Lf Ln):m < W.heap.size:=lt_of_block h.box
theorem MkS.grow (h:MkS W0 n mk mc mi mf mn mx m W Lc Li Lf Ln) (hb:Below W.heap.size W W'):MkS W0 n mk mc mi mf mn mx m W' Lc Li Lf Ln :=
 ⟨h.low.trans (hb.mono (by have:=h.lt;have:=h.ord;omega)),h.ord,(hb.block _ h.lt).trans h.box,h.c.below hb,h.i.below hb,h.f.below hb,h.nd.below hb,h.x.below hb⟩
theorem MkS.putC (h:MkS W0 n mk mc mi mf mn mx m W Lc Li Lf Ln) {o:Obj} {L:List (ByteArray × Value)} (hm:MapS (World.putM W mc o) mc L):MkS W0 n mk mc mi mf mn mx m (World.putM W mc o) L Li Lf Ln:=by
 have hu:Upon mc W (World.putM W mc o):=upon_putM (Upon.refl _ _) _
 have ho:=h.ord
 exact ⟨below_putM h.low oq _,ho,(hu.block _ h.lt oq).trans h.box,hm,h.i.upon hu oq,h.f.upon hu oq,h.nd.upon hu oq,h.x.upon hu oq⟩
theorem MkS.putI (h:MkS W0 n mk mc mi mf mn mx m W Lc Li Lf Ln) {o:Obj} {L:List (ByteArray × Value)} (hm:MapS (World.putM W mi o) mi L):MkS W0 n mk mc mi mf mn mx m (World.putM W mi o) Lc L Lf Ln:=by
 have hu:Upon mi W (World.putM W mi o):=upon_putM (Upon.refl _ _) _
 have ho:=h.ord
 exact ⟨below_putM h.low oq _,ho,(hu.block _ h.lt oq).trans h.box,h.c.upon hu oq,hm,h.f.upon hu oq,h.nd.upon hu oq,h.x.upon hu oq⟩
theorem MkS.putF (h:MkS W0 n mk mc mi mf mn mx m W Lc Li Lf Ln) {o:Obj} {L:List (ByteArray × Value)} (hm:MapS (World.putM W mf o) mf L):MkS W0 n mk mc mi mf mn mx m (World.putM W mf o) Lc Li L Ln:=by
 have hu:Upon mf W (World.putM W mf o):=upon_putM (Upon.refl _ _) _
 have ho:=h.ord
 exact ⟨below_putM h.low oq _,ho,(hu.block _ h.lt oq).trans h.box,h.c.upon hu oq,h.i.upon hu oq,hm,h.nd.upon hu oq,h.x.upon hu oq⟩
theorem MkS.putN (h:MkS W0 n mk mc mi mf mn mx m W Lc Li Lf Ln) {o:Obj} {L:List (ByteArray × Value)} (hm:MapS (World.putM W mn o) mn L):MkS W0 n mk mc mi mf mn mx m (World.putM W mn o) Lc Li Lf L:=by
 have hu:Upon mn W (World.putM W mn o):=upon_putM (Upon.refl _ _) _
 have ho:=h.ord
 exact ⟨below_putM h.low oq _,ho,(hu.block _ h.lt oq).trans h.box,h.c.upon hu oq,h.i.upon hu oq,h.f.upon hu oq,hm,h.x.upon hu oq⟩
end
theorem fcalls_seqC {W0:World} (p:PG) (an ai af ao:Option Addr) (cn ci cf co:Nat) (hp:AP W0 p an ai af ao cn ci cf co) (hok:PgOK p) (mc mi mf mn mx:Nat) (m B1 B2 i n:Nat) (hi:i < p.flows.length) (w:World) (Bk:Nat) (hBk:Bk ≤ w.heap.size)
  (hB:Below W0.heap.size W0 w) (hm:MkB w m p an ai af ao cn ci cf co mc mi mf mn mx) (hb1:Boxed w B1 120 (.pointer (some ⟨m,0,none⟩))) (hb2:Boxed w B2 3 (.int .i64 (i:Int))) :
  SeqC Fence.wide n Tryz.prog 141 #[.pointer (some ⟨B1,0,none⟩),.pointer (some ⟨B2,0,none⟩)] (fun x:VS W0 => x.vs) W0.heap.size Bk (fun xs => xs.map (·.s) = (spotsE p.flows[i].e (dg i)).filter isC)
   (fun pre => pre.map (·.s) <+: (spotsE p.flows[i].e (dg i)).filter isC) (p.flows[i].e.args.sz + 1) w:=fun l J Jx W hW hJ hJx hY h0 =>
 fcalls1_any p an ai af ao cn ci cf co hp hok mc mi mf mn mx m B1 B2 i n l Bk hi J Jx W (hB.trans (hW.mono hB.size)) (Nat.le_trans hBk hW.size) ((hW.block m (lt_of_block hm)).trans hm) ((hW.block B1 hb1.lt).trans hb1) ((hW.block B2 hb2.lt).trans hb2) hJ hJx hY h0
end Go.Proofs.YtpjficjlfibibaaGreatDoor.syn
