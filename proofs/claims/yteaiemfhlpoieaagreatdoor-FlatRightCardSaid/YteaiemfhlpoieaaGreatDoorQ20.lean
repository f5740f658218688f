/-
  Parts of the proof: ChkG3, Nam4, Shelf, Flt1.
-/
import Derived.Test.YteaiemfhlpoieaaGreatDoorQ11
import Derived.Test.YteaiemfhlpoieaaGreatDoorQ19
import Derived.Test.YteaiemfhlpoieaaGreatDoorQ18
import Derived.Shelf.Strconv.Itoa0
import Derived.Shelf.Strconv.Itoa1
import Derived.Shelf.LaysM
import Derived.Shelf.Strconv.Itoa2
import Derived.Shelf.Strconv.Itoa3
import Derived.Ground.Names2Prog
import Derived.Shelf.Slices.Clone
import Derived.Test.YteaiemfhlpoieaaGreatDoorProg
import Derived.Deep.RegionHeld3
namespace Go.Proofs.YteaiemfhlpoieaaGreatDoor.syn
open Go.RowKit
set_option linter.unusedVariables false
set_option linter.unusedSimpArgs false
theorem rt_in:∀ (l:List IN) (e:Env),RtE e → (∀ x ∈ l,clock.rightB x.per x.ph = true) → RtE (inEnv l e):=by
  intro l
  induction l with
  | nil => intro e h _;exact h
  | cons x l ih =>
    intro e h hx
    refine ih _ (fun nm c hc => ?_) (fun y hy => hx y (List.mem_cons_of_mem _ hy))
    unfold upd at hc
    by_cases hn:nm = x.nm
    · rw [if_pos hn] at hc;injection hc with hc;rw [← hc];exact hx x List.mem_cons_self
    · rw [if_neg hn] at hc;exact h nm c hc
theorem rt_env0 {ins:List IN} (h:∀ x ∈ ins,clock.rightB x.per x.ph = true):RtE (env0 ins):=rt_in ins _ (fun nm c hc => by cases hc) h
theorem GrE.trans {a:Env} {flows:List FL} {b c:Env} (h:GrE a flows b) (k:GrE b flows c):GrE a flows c:=by
  induction k with
  | base => exact h
  | step _ h1 h2 h3 ih => exact .step ih h1 h2 h3
structure ClkF (p:PG) (env:Env):Prop where
  rt:RtE env
  ext:ExtE (env0 p.ins) env
  gr:GrE (env0 p.ins) p.flows env
  calls:callsOK env p.flows = true
  flows:∀ f ∈ p.flows,FcS env f
def ClkG (w:World) (p:PG) (x:Ending) (w':World):Prop :=
  ((∃ a e,e ≠ 0 ∧ x = .returned (.tuple #[.slice none 0 0,.int .i64 a,.int .i64 e])) ∨ ∃ v env,x = .returned (.tuple #[v,.int .i64 0,.int .i64 0]) ∧ ClkF p env ∧ ClkRow w' v (p.flows.map (fun f => clkAt env f.nm))) ∧ Below w.heap.size w w'
def L2G (w W:World) (mb:Nat) (p:PG) (v:Value) (wr:World):Prop :=
  ∃ (j:Nat) (env:Env) (L:List (ByteArray × Value)),v = .int .i64 (j:Int) ∧ j ≤ 4 ∧ CW w W wr mb ∧ MapS wr mb L ∧ EnvIs L env ∧ RtE env ∧ ExtE (env0 p.ins) env ∧ GrE (env0 p.ins) p.flows env ∧ (2 ≤ j → ∀ f ∈ p.flows,∃ c,env f.nm = some c) ∧ (3 ≤ j → callsOK env p.flows = true) ∧ (4 ≤ j → ∀ f ∈ p.flows,FcS env f)
theorem errPair_b {x:Ending} (h:ErrPair x):∃ a e,e ≠ 0 ∧ (e == 0) = false ∧ x = .returned (.tuple #[.int .i64 a,.int .i64 e]):=by
  obtain ⟨a,e,h1,h2⟩:=h
  exact ⟨a,e,h1,beq_eq_false_iff_ne.2 h1,h2⟩
set_option maxRecDepth 100000 in
set_option maxHeartbeats 4000000 in
theorem clocks_gen {w:World} (p:PG) (an ai af ao:Option Addr) (cn ci cf co:Nat) (hp:AP w p an ai af ao cn ci cf co) (hs:sumN p.nodes + sumF p.flows ≤ 8000) (hl:p.flows.length ≤ 1000) (hI:∀ x ∈ p.ins,clock.rightB x.per x.ph = true) :
    Calls Tryz.prog 8 #[pv p an ai af ao cn ci cf co] w (ClkG w p):=by
  obtain ⟨nodes,ins,flows,outs⟩:=p
  have hR0:=rt_env0 hI
  simp only at hs hl hR0
  have HFT:=hid (fun (w':World) (hb:Below w.heap.size w w') => fits_any ⟨nodes,ins,flows,outs⟩ an ai af ao cn ci cf co (hp.below hb) hs)
  unfold pv at HFT
  simp only at HFT
  have HI:=hid hp.ins
  have HF:=hid hp.flows
  have hcap:=hp.caps
  simp only at hcap
  have hil:ins.length ≤ 9223372036854775807:=by omega
  have hfl:flows.length ≤ 9223372036854775807:=by omega
  have HR0:=hid hR0
  clear hp hI hR0
  unfold pv
  simp only
  have hmk:=fun w => run_makeMap (P:=Tryz.prog) 88 w
  go_enter Tryz.func8,Tryz.ntmps8
  go_wp2_with (go_at_call 31;refine (HFT.out _ bq).mono ?_;rintro x w1 ⟨rfl,hb1⟩;obtain ⟨hc1,hf1⟩:=bcell hb1;have b1:w.heap.size < w1.heap.size:=sz_of hb1 oq)
  have HB1:=hid hb1
  have hpb0:(w1.alloc (.map #[] 0)).heap[w.heap.size]? = some (.cells #[.slice an nodes.length cn,.slice ai ins.length ci,.slice af flows.length cf,.slice ao outs.length co] 27 (0,0)):=(Below.heap_alloc _ _ _ b1).trans ((hb1.block _ oq).trans (heap_new w _))
  have HCW0:=hid (show CW w (w1.alloc (.map #[] 0)) (w1.alloc (.map #[] 0)) w1.heap.size from ⟨Upon.refl _ _,by simp;omega,bq,b1⟩)
  have HM0:=hid (MapS.new w1)
  have HPB0:=hid hpb0
  generalize w1.alloc (.map #[] 0) = W1 at *
  obtain ⟨mb,hmb⟩:∃ mb,w1.heap.size = mb:=⟨_,rfl⟩
  rw [hmb] at b1 HCW0 HM0 ⊢
  clear hmb hc1 hf1 hb1 HB1 hpb0
  go_loopw [22] (fun v wr => Hid (L1Rel w W1 mb ins v wr)) (fun i _ => ins.length - (intOf i).toNat)
  case atStart => exact ⟨0,fun _ => none,[],rfl,Nat.zero_le _,HCW0.out,HM0.out,envNil,rfl⟩
  case round =>
    obtain ⟨i,env,L,rfl,hi,hcw,hM,hE,hen⟩:=hrel.out
    clear hrel
    have HM:=hid hM
    have HCW:=hid hcw
    have HE:=hid hE
    have hlow:=hcw.low
    have hmlt:=hM.lt
    have hszr:=hlow.size
    have hpb:=(hcw.upon.block _ (lt_of_block HPB0.out) oq).trans HPB0.out
    obtain ⟨⟨p0,p1,p2,p3⟩,pf⟩:=cells4 hpb
    have HPB:=hid hpb
    have hplt:=lt_of_block hpb
    clear hcw hM hE hpb
    by_cases hlt:i < ins.length
    · obtain ⟨bb,oo,rfl,hbb0,hin0⟩:=HI.out.at hlt
      have hin:=hin0.later hlow hbb0
      rw [drop_in hlt] at hen
      obtain ⟨f,hf⟩:∃ f,ins[i] = f:=⟨_,rfl⟩
      rw [hf] at hin hen
      obtain ⟨nm,per,ph,fa⟩:=f
      obtain ⟨y0,y1,y2,y3,_⟩:=hin
      simp only at y0 y1 y2 y3
      have HEN:=hid (show inEnv (ins.drop (i + 1)) (upd env nm (per,ph)) = env0 ins from hen)
      have hie:(i:Int) < (ins.length:Int):=by omega
      have hbb:bb < wr.heap.size:=by omega
      clear hin0 hen hlow
      go_wp2_with (at_mapUpdate;refine wpList_putS clocksMap _ rfl _ _ _ rfl mb L nm (cvv (per,ph)) rfl rfl rfl (HM.out.below bq) ?_;intro arr clock hm2)
      refine ⟨⟨i + 1,upd env nm (per,ph),_,by go_num,by omega,⟨HCW.out.upon.trans (upon_putM ((Upon.refl _ _).alloc _) _),HCW.out.size,HCW.out.below,b1⟩,hm2,HE.out.put nm (per,ph),HEN.out⟩,by simp [intOf];omega⟩
    · have hie:i = ins.length:=by omega
      subst hie
      have he0:env = env0 ins:=by rw [List.drop_length] at hen;exact hen
      subst he0
      clear hen
      obtain ⟨W2,hW2⟩:∃ W2,wr.alloc (Obj.cells #[.func (.func 32) #[.map (some mb)] #[],.func (.func 33) #[.map (some mb)] #[],.func (.func 34) #[.map (some mb)] #[],.func (.func 35) #[.map (some mb)] #[]] 89) = W2:=⟨_,rfl⟩
      obtain ⟨fb,hfb⟩:∃ fb,wr.heap.size = fb:=⟨_,rfl⟩
      go_wp2
      try rw [hW2]
      have HFB:=hid (show W2.heap[fb]? = some _ from by rw [← hW2,← hfb];exact heap_new wr _)
      have hW2s:W2.heap.size = fb + 1:=by rw [← hW2,← hfb];simp
      have HPB2:=hid (show W2.heap[w.heap.size]? = some (.cells #[.slice an nodes.length cn,.slice ai ins.length ci,.slice af flows.length cf,.slice ao outs.length co] 27 (0,0)) from by rw [← hW2];exact (Below.heap_alloc _ _ _ hplt).trans HPB.out)
      have HCW2:=hid (show CW w W2 W2 mb from ⟨Upon.refl _ _,by omega,by rw [← hW2];exact hlow.alloc hszr _,b1⟩)
      have HM2:=hid (show MapS W2 mb L from by rw [← hW2];exact HM.out.below bq)
      rw [hfb] at hmlt
      clear hW2 hfb hlow hszr hplt p0 p1 p2 p3 pf HPB HM HCW HPB0 HM0 HCW0
      go_loopw [45] (fun v wr => Hid (L2G w W2 mb ⟨nodes,ins,flows,outs⟩ v wr)) (fun i _ => 4 - (intOf i).toNat)
      case atStart => exact ⟨0,env0 ins,L,rfl,by omega,HCW2.out,HM2.out,HE.out,HR0.out,fun _ _ h => h,.base,fun h => absurd h oq,fun h => absurd h oq,fun h => absurd h oq⟩
      case round =>
        obtain ⟨j,env,L2,rfl,hj,hcw,hM,hE,hrt,hex,hgr,hj2,hj3,hj4⟩:=hrel.out
        clear hrel
        simp only at hex hgr hj2 hj3 hj4
        have HGR:=hid hgr
        have HRT:=hid hrt
        have HEX:=hid hex
        have hlow:=hcw.low
        have hszr:=hlow.size
        have hpb:=(hcw.upon.block _ (lt_of_block HPB2.out) oq).trans HPB2.out
        have hfbk:=(hcw.upon.block _ (lt_of_block HFB.out) oq).trans HFB.out
        obtain ⟨⟨p0,p1,p2,p3⟩,pf⟩:=cells4 hpb
        obtain ⟨⟨q0,q1,q2,q3⟩,qf⟩:=cells4 hfbk
        have HPB:=hid hpb
        have hrow:=HF.out.below flSta hlow
        have HM:=hid hM
        have HE2:=hid hE
        have HCW:=hid hcw
        match j,hj with
        | 0,_ =>
          have HC:=hid (find_gen (W0:=w) (w:=wr) flows af cf mb L2 env hlow (Nat.le_of_lt b1) HF.out hcap.2.2.1.1 hcap.2.2.1.2 hM hE hrt)
          have HJ2:=hid hj2
          have HJ3:=hid hj3
          clear hcw hM hE hrow hpb hfbk hrt hex hj2 hj3 hj4 hlow
          go_wp2_with (go_at_call 32;refine HC.out.mono ?_;rintro x w3 ⟨hx3,hu3⟩;unfold OkPair at hx3;rcases hx3 with hx3 | ⟨rfl,L3,env3,hM3,hE3,hR3,hX3,hG3⟩;obtain ⟨ab,eb,heb,heb',rfl⟩:=errPair_b hx3)
          all_goals first | (go_ret3;exact ⟨.inl ⟨ab,eb,heb,rfl⟩,HCW.out.low.trans (hu3.below hszr (Nat.le_of_lt b1))⟩) | exact ⟨⟨1,env3,L3,by go_num,by omega,⟨HCW.out.upon.trans hu3,HCW.out.size,HCW.out.below,b1⟩,hM3,hE3,hR3,fun nm c h => hX3 nm c (HEX.out nm c h),HGR.out.trans hG3,fun h => absurd h oq,fun h => absurd h oq,fun h => absurd h oq⟩,by simp [intOf]⟩
        | 1,_ =>
          have HC:=hid (askFound_gen (w:=wr) flows af cf mb L2 env hrow hcap.2.2.1.1 hcap.2.2.1.2 hM hE)
          have HJ2:=hid hj2
          have HJ3:=hid hj3
          clear hcw hM hE hrow hpb hfbk hrt hex hj2 hj3 hj4 hlow
          go_wp2_with (go_at_call 33;refine HC.out.mono ?_;rintro x w3 ⟨hx3,hb3⟩;unfold OkPair at hx3;rcases hx3 with hx3 | ⟨rfl,hall⟩;obtain ⟨ab,eb,heb,heb',rfl⟩:=errPair_b hx3)
          all_goals first | (go_ret3;exact ⟨.inl ⟨ab,eb,heb,rfl⟩,HCW.out.low.trans (hb3.mono hszr)⟩) | exact ⟨⟨2,env,L2,by go_num,by omega,⟨HCW.out.upon.trans (Upon.of_below hb3),HCW.out.size,HCW.out.below,b1⟩,HM.out.below hb3,HE2.out,HRT.out,HEX.out,HGR.out,fun _ => hall,fun h => absurd h oq,fun h => absurd h oq⟩,by simp [intOf]⟩
        | 2,_ =>
          have HC:=hid (askCalls_any (w:=wr) flows af cf mb L2 env hrow hcap.2.2.1.1 hcap.2.2.1.2 hM hE)
          have HJ2:=hid (hj2 oq)
          clear hcw hM hE hrow hpb hfbk hrt hex hj2 hj3 hj4 hlow
          cases hck:callsOK env flows with
          | false =>
            rw [hck] at HC
            go_wp2_with (go_at_call 34;go_loud (refine HC.out.mono ?_;rintro x w3 ⟨⟨ab,eb,heb,rfl⟩,hb3⟩;have heb':(eb == 0) = false:=beq_eq_false_iff_ne.2 heb))
            go_ret3
            exact ⟨.inl ⟨ab,eb,heb,rfl⟩,HCW.out.low.trans (hb3.mono hszr)⟩
          | true =>
            rw [hck] at HC
            go_wp2_with (go_at_call 34;go_loud (refine HC.out.mono ?_;rintro x w3 ⟨he,hb3⟩;obtain rfl:x = .returned (.tuple #[.int .i64 0,.int .i64 0]):=he))
            refine ⟨⟨3,env,L2,by go_num,by omega,⟨HCW.out.upon.trans (Upon.of_below hb3),HCW.out.size,HCW.out.below,b1⟩,HM.out.below hb3,HE2.out,HRT.out,HEX.out,HGR.out,fun _ => HJ2.out,fun _ => hck,fun h => absurd h oq⟩,by simp [intOf]⟩
        | 3,_ =>
          have HC:=hid (askFlows_gen (w:=wr) flows af cf mb L2 env hrow hcap.2.2.1.1 hcap.2.2.1.2 hM hE (hj2 oq) hrt)
          have HJ2:=hid hj2
          have HJ3:=hid hj3
          clear hcw hM hE hrow hpb hfbk hrt hex hj2 hj3 hj4 hlow
          go_wp2_with (go_at_call 35;refine HC.out.mono ?_;rintro x w3 ⟨hx3,hb3⟩;unfold OkPair at hx3;rcases hx3 with hx3 | ⟨rfl,hfc⟩;obtain ⟨ab,eb,heb,heb',rfl⟩:=errPair_b hx3)
          all_goals first | (go_ret3;exact ⟨.inl ⟨ab,eb,heb,rfl⟩,HCW.out.low.trans (hb3.mono hszr)⟩) | exact ⟨⟨4,env,L2,by go_num,by omega,⟨HCW.out.upon.trans (Upon.of_below hb3),HCW.out.size,HCW.out.below,b1⟩,HM.out.below hb3,HE2.out,HRT.out,HEX.out,HGR.out,fun _ => HJ2.out oq,fun _ => HJ3.out oq,fun _ => hfc⟩,by simp [intOf]⟩
        | 4,_ =>
          have hhas:=hj2 oq
          have HHAS:=hid hhas
          have HCF:=hid (show ClkF ⟨nodes,ins,flows,outs⟩ env from ⟨hrt,hex,hgr,hj3 oq,hj4 oq⟩)
          obtain ⟨W3,hW3⟩:∃ W3,wr.alloc (.cells (madeCells #[.int .i64 0,.int .i64 0] (flows.length * 2)) 53) = W3:=⟨_,rfl⟩
          obtain ⟨b,hb⟩:∃ b,wr.heap.size = b:=⟨_,rfl⟩
          have hplt:=lt_of_block hpb
          have hmlt2:=hM.lt
          have hpb3:W3.heap[w.heap.size]? = some (.cells #[.slice an nodes.length cn,.slice ai ins.length ci,.slice af flows.length cf,.slice ao outs.length co] 27 (0,0)):=by rw [← hW3];exact (Below.heap_alloc _ _ _ hplt).trans hpb
          obtain ⟨⟨r0,r1,r2,r3⟩,rf⟩:=cells4 hpb3
          clear hcw hM hE hrow hfbk hrt hex hj2 hj3 hj4 hhas
          go_wp2_with (at_make;refine wpList_mk _ rfl _ _ rfl flows.length rfl rfl hl ?_)
          try rw [hW3]
          try rw [hb]
          have hB3:W3.heap[b]? = some (.cells (madeCells #[.int .i64 0,.int .i64 0] (flows.length * 2)) 53 (0,0)):=by rw [← hW3,← hb];exact heap_new wr _
          have HB3:=hid hB3
          have hW3s:W3.heap.size = b + 1:=by rw [← hW3,← hb];simp
          have hlow3:Below w.heap.size w W3:=by rw [← hW3];exact hlow.alloc hszr _
          have HLOW:=hid hlow3
          have HM3:=hid (show MapS W3 mb L2 from by rw [← hW3];exact HM.out.below bq)
          rw [hb] at hmlt2 hplt hszr
          clear hW3 hb hlow3 hlow hB3 hpb hpb3 HM HPB HCW p0 p1 p2 p3 pf q0 q1 q2 q3 qf r0 r1 r2 r3 rf
          go_loopw [68] (fun v wr => Hid (L3Rel w W3 mb b env L2 flows v wr)) (fun i _ => flows.length - (intOf i).toNat)
          case atStart => exact ⟨0,_,rfl,Nat.zero_le _,Upon.refl _ _,HB3.out,made_size _,fun j h hj => absurd hj oq⟩
          case round =>
            obtain ⟨i,arr,rfl,hi,hup,hblk,hasz,hcells⟩:=hrel.out
            clear hrel
            have hlow:=HLOW.out.trans (hup.below oq (Nat.le_of_lt hplt))
            have hszr:=hlow.size
            have hszu:=hup.size
            have HUP:=hid hup
            have HBLK:=hid hblk
            have hca:=blk_cellA hblk
            have hM:=HM3.out.upon hup oq
            have HCE:=hid hcells
            by_cases hlt:i < flows.length
            · obtain ⟨bb,oo,rfl,hbb0,hfl0⟩:=HF.out.at hlt
              have hfl':=hfl0.later hlow hbb0
              obtain ⟨c,hc⟩:=HHAS.out flows[i] (List.getElem_mem hlt)
              obtain ⟨f,hf⟩:∃ f,flows[i] = f:=⟨_,rfl⟩
              have HF2:=hid hf
              rw [hf] at hfl' hc
              obtain ⟨nm,⟨k1,nm1,n1,d1,args1,a1⟩,fa⟩:=f
              obtain ⟨ad,cap,y0,y1,y2,y3,y4,y5,y6,y7,hae,hfn⟩:=hfl'.cells
              obtain ⟨c1,c2⟩:=c
              have HG:=hid (show getS nm L2 = some (.agg #[.int .i64 c1,.int .i64 c2]) by rw [HE2.out nm,hc];rfl)
              have hie:(i:Int) < (flows.length:Int):=by omega
              have hbb:bb < wr.heap.size:=by omega
              have hblt:b < wr.heap.size:=lt_of_block hblk
              have z0:wr.cell? ⟨b,i * 2,none⟩ = some arr[i * 2]:=by rw [(hca _).1];exact Array.getElem?_eq_getElem oq
              have z1:wr.cell? ⟨b,i * 2 + 1,none⟩ = some arr[i * 2 + 1]:=by rw [(hca _).1];exact Array.getElem?_eq_getElem oq
              have zf0:=(hca (i * 2)).2
              have zf1:=(hca (i * 2 + 1)).2
              have HMr:=hid hM
              have HC:=hid hc
              clear hup hblk hcells hca hM hfl' hfl0 hf hc hae hfn hlow hbb0
              go_wp2_with (at_lookup;refine wpList_lookS_yes1 clocksMap _ rfl _ _ rfl mb L2 nm _ rfl rfl (HMr.out.below bq) HG.out ?_)
              refine ⟨⟨i + 1,_,by go_num,by omega,((HUP.out.setAt (.inl rfl) _).setAt (.inl rfl) _).alloc _,(Below.heap_alloc _ _ _ (by simpa [World.setCell] using hblt)).trans (blk_setA (blk_setA HBLK.out (i * 2) (.int .i64 c1)) (i * 2 + 1) (.int .i64 c2)),by simpa using hasz,fun j hj hji => ?_⟩,by simp [intOf];omega⟩
              by_cases hjl:j < i
              · have h:=HCE.out j hj hjl
                rw [Array.getElem?_setIfInBounds_ne oq,Array.getElem?_setIfInBounds_ne oq,Array.getElem?_setIfInBounds_ne oq,Array.getElem?_setIfInBounds_ne oq]
                exact h
              · have hje:j = i:=by omega
                subst hje
                have hk:clkAt env flows[j].nm = (c1,c2):=by rw [HF2.out];unfold clkAt;rw [HC.out];rfl
                rw [hk]
                rw [Array.getElem?_setIfInBounds_ne oq,Array.getElem?_setIfInBounds_self_of_lt oq,Array.getElem?_setIfInBounds_self_of_lt (by rw [Array.size_setIfInBounds];omega)]
                exact ⟨rfl,rfl⟩
            · have hie:i = flows.length:=by omega
              subst hie
              clear hup hblk hcells hca hM
              go_wp2
              go_ret3
              refine ⟨.inr ⟨_,env,rfl,HCF.out,b,by simp,lt_of_block HBLK.out,fun j hj => ?_⟩,hlow⟩
              have hj':j < flows.length:=by simpa using hj
              have h:=HCE.out j hj' hj'
              have hca:=blk_cellA HBLK.out
              refine ⟨(hca _).1.trans ?_,(hca _).1.trans ?_⟩
              · rw [h.1];simp
              · rw [h.2];simp
        | j + 5,h => exact absurd h oq
theorem sumN_le {c:Nat}:∀ l:List ND,(∀ x ∈ l,x.body.sz ≤ c) → sumN l ≤ l.length * c:=by
  intro l
  induction l with
  | nil => intro _;simp [sumN]
  | cons x l ih =>
    intro h
    have h1:=h x (by simp)
    have h2:=ih (fun y hy => h y (by simp [hy]))
    unfold PE.sz at h1
    simp only [sumN,List.length_cons,Nat.succ_mul]
    omega
theorem sumF_le {c:Nat}:∀ l:List FL,(∀ x ∈ l,x.e.sz ≤ c) → sumF l ≤ l.length * c:=by
  intro l
  induction l with
  | nil => intro _;simp [sumF]
  | cons x l ih =>
    intro h
    have h1:=h x (by simp)
    have h2:=ih (fun y hy => h y (by simp [hy]))
    unfold PE.sz at h1
    simp only [sumF,List.length_cons,Nat.succ_mul]
    omega
theorem sz_of_szL {l:PL} (h:szL l 1 100 ≤ 100):l.sz + 1 ≤ 100:=by
  have:=szL_sz l 1 100 oq oq h
  omega
structure PgOK (p:PG):Prop where
  nodes:∀ x ∈ p.nodes,Ar2E x.body ∧ x.body.sz ≤ 100
  flows:∀ x ∈ p.flows,x.e.sz ≤ 100 ∧ exprOK x.e = true
  lens:p.nodes.length ≤ 40 ∧ p.ins.length ≤ 40 ∧ p.flows.length ≤ 40 ∧ p.outs.length ≤ 40
  sums:sumN p.nodes + sumF p.flows ≤ 8000
  ins:∀ x ∈ p.ins,clock.rightB x.per x.ph = true
theorem RightF.ok {p:PG} (h:RightF p):PgOK p:=by
  have hl:=h.lens
  have h1:∀ x ∈ p.nodes,Ar2E x.body ∧ x.body.sz ≤ 100:=fun x hx => ⟨bodyB_ar2 (h.nodes x hx).2.2.2.2,sz_of_szL (h.nodes x hx).1⟩
  have h2:∀ x ∈ p.flows,x.e.sz ≤ 100 ∧ exprOK x.e = true:=fun x hx => ⟨sz_of_szL (h.flows x hx).1,(h.flows x hx).2⟩
  refine ⟨h1,h2,by omega,?_,fun x hx => ?_⟩
  · have h3:=sumN_le p.nodes (fun x hx => (h1 x hx).2)
    have h4:=sumF_le p.flows (fun x hx => (h2 x hx).1)
    omega
  · obtain ⟨h5,h6⟩:=h.ins x hx
    simp only [inB,Bool.and_eq_true,decide_eq_true_eq] at h5 h6
    exact clock.right_yes ⟨by omega,by omega,by omega,by omega⟩
def Nms2 (W2:World) (v:Value) (wr:World):Prop:=∃ j:Nat,v = .int .i64 (j:Int) ∧ j ≤ 4 ∧ Below W2.heap.size W2 wr
set_option maxRecDepth 100000 in
set_option maxHeartbeats 4000000 in
theorem names_gen {w:World} (p:PG) (an ai af ao:Option Addr) (cn ci cf co:Nat) (hp:AP w p an ai af ao cn ci cf co) (hz:NZ w p.nodes an) (hok:PgOK p) :
    Calls Tryz.prog 78 #[pv p an ai af ao cn ci cf co] w fun x w' => PairAns x ∧ Below w.heap.size w w':=by
  obtain ⟨nodes,ins,flows,outs⟩:=p
  have hnz:∀ w',Below w.heap.size w w' → NZ w' nodes an:=fun w' hb => hz.below hp.nodes hb
  have HFT:=hid (fun (w':World) (hb:Below w.heap.size w w') => fits_any ⟨nodes,ins,flows,outs⟩ an ai af ao cn ci cf co (hp.below hb) hok.sums)
  have H0:=hid (fun (w':World) (hb:Below w.heap.size w w') => askNodes_gen (w:=w') nodes ins flows outs an ai af ao cn ci cf co (hp.below hb) (hnz w' hb) hok.nodes)
  have H1:=hid (fun (w':World) (hb:Below w.heap.size w w') => askSources_gen (w:=w') nodes ins flows outs an ai af ao cn ci cf co (hp.below hb))
  have H2:=hid (fun (w':World) (hb:Below w.heap.size w w') => askExprs_gen (w:=w') nodes ins flows outs an ai af ao cn ci cf co (hp.below hb))
  have H3:=hid (fun (w':World) (hb:Below w.heap.size w w') => askOutputs_gen (w:=w') nodes ins flows outs an ai af ao cn ci cf co (hp.below hb))
  clear hp hok hz hnz
  unfold pv PairAns at *
  simp only at HFT H0 H1 H2 H3 ⊢
  go_enter Tryz.func78,Tryz.ntmps78
  go_wp2_with (go_at_call 31;refine (HFT.out _ bq).mono ?_;rintro x w1 ⟨rfl,hb1⟩;obtain ⟨hc1,hf1⟩:=bcell hb1;have b1:w.heap.size < w1.heap.size:=sz_of hb1 oq)
  obtain ⟨W2,hW2⟩:∃ W2,w1.alloc (Obj.cells #[.func (.func 90) #[] #[],.func (.func 91) #[] #[],.func (.func 92) #[] #[],.func (.func 93) #[] #[]] 140) = W2:=⟨_,rfl⟩
  obtain ⟨fb,hfb⟩:∃ fb,w1.heap.size = fb:=⟨_,rfl⟩
  have HPB:=hid (show W2.heap[w.heap.size]? = some (.cells #[.slice an nodes.length cn,.slice ai ins.length ci,.slice af flows.length cf,.slice ao outs.length co] 27 (0,0)) from by rw [← hW2];exact (Below.heap_alloc _ _ _ b1).trans ((hb1.block _ oq).trans (heap_new w _)))
  have HFB:=hid (show W2.heap[fb]? = some _ from by rw [← hW2,← hfb];exact heap_new w1 _)
  have HB2:=hid (show Below w.heap.size w W2 from by rw [← hW2];exact bq)
  have hsz2:W2.heap.size = fb + 1:=by rw [← hW2,← hfb];simp
  rw [hfb] at b1
  try rw [hW2]
  try rw [hfb]
  clear hW2 hfb hb1 hc1 hf1
  go_loopw [13] (fun v wr => Hid (Nms2 W2 v wr)) (fun i _ => 4 - (intOf i).toNat)
  case atStart => exact ⟨0,rfl,by omega,Below.refl _ _⟩
  case round =>
    obtain ⟨j,rfl,hj,hbel⟩:=hrel.out
    clear hrel
    have hszr:=hbel.size
    have hpb:=(hbel.block _ oq).trans HPB.out
    have hfbk:=(hbel.block _ oq).trans HFB.out
    obtain ⟨⟨p0,p1,p2,p3⟩,pf⟩:=cells4 hpb
    obtain ⟨⟨q0,q1,q2,q3⟩,qf⟩:=cells4 hfbk
    have HBW:=hid (HB2.out.trans (hbel.mono oq))
    have HB:=hid hbel
    clear hpb hfbk hbel
    match j,hj with
    | 0,_ =>
      go_wp2_with (go_at_call 90;refine (H0.out _ HBW.out).mono ?_;rintro x w3 ⟨⟨ea,ee,rfl⟩,hb3⟩;have HB3:=hid hb3;clear hb3)
      · go_ret2
        exact ⟨⟨_,_,rfl⟩,HBW.out.trans (HB3.out.mono (by have:=HBW.out.size;omega))⟩
      · refine ⟨⟨1,by go_num,by omega,HB.out.trans (HB3.out.mono hszr)⟩,by simp [intOf]⟩
    | 1,_ =>
      go_wp2_with (go_at_call 91;refine (H1.out _ HBW.out).mono ?_;rintro x w3 ⟨⟨ea,ee,rfl⟩,hb3⟩;have HB3:=hid hb3;clear hb3)
      · go_ret2
        exact ⟨⟨_,_,rfl⟩,HBW.out.trans (HB3.out.mono (by have:=HBW.out.size;omega))⟩
      · refine ⟨⟨2,by go_num,by omega,HB.out.trans (HB3.out.mono hszr)⟩,by simp [intOf]⟩
    | 2,_ =>
      go_wp2_with (go_at_call 92;refine (H2.out _ HBW.out).mono ?_;rintro x w3 ⟨⟨ea,ee,rfl⟩,hb3⟩;have HB3:=hid hb3;clear hb3)
      · go_ret2
        exact ⟨⟨_,_,rfl⟩,HBW.out.trans (HB3.out.mono (by have:=HBW.out.size;omega))⟩
      · refine ⟨⟨3,by go_num,by omega,HB.out.trans (HB3.out.mono hszr)⟩,by simp [intOf]⟩
    | 3,_ =>
      go_wp2_with (go_at_call 93;refine (H3.out _ HBW.out).mono ?_;rintro x w3 ⟨⟨ea,ee,rfl⟩,hb3⟩;have HB3:=hid hb3;clear hb3)
      · go_ret2
        exact ⟨⟨_,_,rfl⟩,HBW.out.trans (HB3.out.mono (by have:=HBW.out.size;omega))⟩
      · refine ⟨⟨4,by go_num,by omega,HB.out.trans (HB3.out.mono hszr)⟩,by simp [intOf]⟩
    | 4,_ =>
      go_wp2
      go_ret2
      exact ⟨⟨_,_,rfl⟩,HBW.out⟩
    | j + 5,h => exact absurd h oq
set_option maxRecDepth 100000 in
set_option maxHeartbeats 4000000 in
theorem check_gen {w:World} (p:PG) (an ai af ao:Option Addr) (cn ci cf co:Nat) (hp:AP w p an ai af ao cn ci cf co) (hz:NZ w p.nodes an) (hok:PgOK p) :
    Calls Tryz.prog 57 #[pv p an ai af ao cn ci cf co] w (ClkG w p):=by
  have HNM:=hid (fun (w':World) (hb:Below w.heap.size w w') => names_gen (w:=w') p an ai af ao cn ci cf co (hp.below hb) (hz.below hp.nodes hb) hok)
  have HCL:=hid (fun (w':World) (hb:Below w.heap.size w w') => clocks_gen (w:=w') p an ai af ao cn ci cf co (hp.below hb) hok.sums (by have:=hok.lens;omega) hok.ins)
  obtain ⟨nodes,ins,flows,outs⟩:=p
  clear hp hz hok
  unfold pv at *
  unfold PairAns at HNM
  unfold ClkG at HCL ⊢
  simp only at HNM HCL ⊢
  go_enter Tryz.func57,Tryz.ntmps57
  go_wp2_with (first | (go_at_call 78;refine (HNM.out _ bq).mono ?_;rintro x w1 ⟨⟨ea,ee,rfl⟩,hb1⟩;obtain ⟨hc1,hf1⟩:=bcell hb1;have b1:w.heap.size < w1.heap.size:=sz_of hb1 oq) | (go_at_call 8;refine (HCL.out _ bq).mono ?_;rintro x w2 ⟨hx2,hb2⟩;rcases hx2 with ⟨a2,e2,he2,rfl⟩ | ⟨v,env,rfl,hcf,hrow⟩))
  · have hne:ee ≠ 0:=by rename_i hq;simpa using hq
    go_ret3
    exact ⟨.inl ⟨ea,ee,hne,rfl⟩,bq⟩
  · go_ret3
    exact ⟨.inl ⟨a2,e2,he2,rfl⟩,bq⟩
  · go_ret3
    exact ⟨.inr ⟨v,env,rfl,hcf,hrow⟩,bq⟩
end Go.Proofs.YteaiemfhlpoieaaGreatDoor.syn
namespace Go.Proofs
open Go.Shelf
open Go.Lib in
open Go.Lib in
open Go.Lib in
open Go.Lib in
open Go.RowKit Go.Sort Go.Lib in
open Go.RowKit Go.Sort Go.Lib in
open Go.RowKit Go.Sort Go.Lib in
open Go.RowKit Go.Sort Go.Lib in
open Go.RowKit Go.Sort Go.Lib in
open Go.RowKit Go.Sort Go.Lib in
def Tryz.lays171_ren:Go.Shelf.Ren:=⟨fun | 171 => 81 | 243 => 94 | 246 => 101 | 283 => 105 | 284 => 106 | 285 => 107 | 286 => 108 | 129 => 110 | 317 => 109 | 318 => 111 | 319 => 112 | 320 => 113 | 337 => 114 | 338 => 115 | n => n,fun | 3 => 3 | 9 => 9 | 2 => 2 | 4 => 4 | 171 => 166 | 0 => 0 | 53 => 167 | 37 => 170 | 5 => 5 | 173 => 171 | 212 => 182 | 51 => 183 | 20 => 20 | 213 => 184 | 46 => 186 | 232 => 189 | 233 => 190 | n => n,fun | 17 => 0 | 18 => 1 | 19 => 2 | n => n⟩
theorem Tryz.lays171:Go.Proofs.Lays.n171 Tryz.prog Tryz.lays171_ren:={
  mixed:=by kernel_rfl
  f129:=Tryz.func110.trans (congrArg some (by kernel_rfl))
  f171:=Tryz.func81.trans (congrArg some (by kernel_rfl))
  f243:=Tryz.func94.trans (congrArg some (by kernel_rfl))
  f246:=Tryz.func101.trans (congrArg some (by kernel_rfl))
  f283:=Tryz.func105.trans (congrArg some (by kernel_rfl))
  f284:=Tryz.func106.trans (congrArg some (by kernel_rfl))
  f285:=Tryz.func107.trans (congrArg some (by kernel_rfl))
  f286:=Tryz.func108.trans (congrArg some (by kernel_rfl))
  f317:=Tryz.func109.trans (congrArg some (by kernel_rfl))
  f318:=Tryz.func111.trans (congrArg some (by kernel_rfl))
  f319:=Tryz.func112.trans (congrArg some (by kernel_rfl))
  f320:=Tryz.func113.trans (congrArg some (by kernel_rfl))
  f337:=Tryz.func114.trans (congrArg some (by kernel_rfl))
  f338:=Tryz.func115.trans (congrArg some (by kernel_rfl))
  t0:=Tryz.underlying0
  a0:=Tryz.isAgg0
  z0:=Tryz.sizeOf0
  v0:=Tryz.zeroValue0
  t2:=Tryz.underlying2
  a2:=Tryz.isAgg2
  z2:=Tryz.sizeOf2
  v2:=Tryz.zeroValue2
  t3:=Tryz.underlying3
  a3:=Tryz.isAgg3
  z3:=Tryz.sizeOf3
  v3:=Tryz.zeroValue3
  t4:=Tryz.underlying4
  a4:=Tryz.isAgg4
  z4:=Tryz.sizeOf4
  v4:=Tryz.zeroValue4
  t5:=Tryz.underlying5
  a5:=Tryz.isAgg5
  z5:=Tryz.sizeOf5
  v5:=Tryz.zeroValue5
  t9:=Tryz.underlying9
  a9:=Tryz.isAgg9
  z9:=Tryz.sizeOf9
  v9:=Tryz.zeroValue9
  t20:=Tryz.underlying20
  a20:=Tryz.isAgg20
  z20:=Tryz.sizeOf20
  v20:=Tryz.zeroValue20
  t37:=Tryz.underlying170
  a37:=Tryz.isAgg170
  z37:=Tryz.sizeOf170
  v37:=Tryz.zeroValue170
  t46:=Tryz.underlying186
  a46:=Tryz.isAgg186
  z46:=Tryz.sizeOf186
  v46:=Tryz.zeroValue186
  t51:=Tryz.underlying183
  a51:=Tryz.isAgg183
  z51:=Tryz.sizeOf183
  v51:=Tryz.zeroValue183
  t53:=Tryz.underlying167
  a53:=Tryz.isAgg167
  z53:=Tryz.sizeOf167
  v53:=Tryz.zeroValue167
  t171:=Tryz.underlying166
  a171:=Tryz.isAgg166
  z171:=Tryz.sizeOf166
  v171:=Tryz.zeroValue166
  t173:=Tryz.underlying171
  a173:=Tryz.isAgg171
  z173:=Tryz.sizeOf171
  v173:=Tryz.zeroValue171
  t212:=Tryz.underlying182
  a212:=Tryz.isAgg182
  z212:=Tryz.sizeOf182
  v212:=Tryz.zeroValue182
  t213:=Tryz.underlying184
  a213:=Tryz.isAgg184
  z213:=Tryz.sizeOf184
  t232:=Tryz.underlying189
  a232:=Tryz.isAgg189
  z232:=Tryz.sizeOf189
  v232:=Tryz.zeroValue189
  t233:=Tryz.underlying190
  a233:=Tryz.isAgg190
  z233:=Tryz.sizeOf190
  v233:=Tryz.zeroValue190
  g17:=by kernel_rfl
  g18:=by kernel_rfl
  g19:=by kernel_rfl }
open Go.RowKit Go.Sort Go.Lib in
theorem Tryz.strconv_Itoa_small (i:Nat) (hi:i < 100) (w:World) :
    Calls Tryz.prog 81 #[.int .i64 i] w fun e w' => e = .returned (.string ⟨(Lib.decDigits i).toArray⟩) ∧ w' = w:=Any.strconv_Itoa_small Tryz.lays171 i hi w
def Tryz.laysNm216_ren:Go.Shelf.Ren:=⟨fun | 16 => 66 | n => n,fun | 24 => 76 | 9 => 9 | 4 => 4 | n => n,fun | n => n⟩
theorem Tryz.laysNm216:Go.Proofs.Lays2.n16 Tryz.prog Tryz.laysNm216_ren:={
  mixed:=by kernel_rfl
  f16:=Tryz.func66.trans (congrArg some (by kernel_rfl))
  t4:=Tryz.underlying4
  a4:=Tryz.isAgg4
  z4:=Tryz.sizeOf4
  v4:=Tryz.zeroValue4
  t9:=Tryz.underlying9
  a9:=Tryz.isAgg9
  z9:=Tryz.sizeOf9
  v9:=Tryz.zeroValue9
  t24:=Tryz.underlying76
  a24:=Tryz.isAgg76
  z24:=Tryz.sizeOf76
  v24:=Tryz.zeroValue76
  i9:=by kernel_rfl }
open Go.RowKit Go.Lib in
theorem Tryz.slices_Clone_string (b off n c:Nat) (zs:List ByteArray) (w:World) (hz:n ≤ zs.length) (hbig:n * 16 ≤ 140737488355328) (hc:∀ j,j < zs.length → w.cell? ⟨b,off + j,none⟩ = some (.string (zs.getD j ByteArray.empty))) :
    Calls Tryz.prog 66 #[.slice (some ⟨b,off,none⟩) n c] w fun e w' => ∃ v',e = .returned v' ∧ w'.ownsRow w.heap.size 9 1 v' n ((zs.take n).map (Value.string)) ∧ v' ≠ .slice none 0 0 ∧ Below w.heap.size w w':=Any.slices_Clone_string Tryz.laysNm216 b off n c zs w hz hbig hc
open Go.RowKit Go.Lib in
theorem Tryz.slices_Clone_string_nil (n c:Nat) (w:World) :
    Calls Tryz.prog 66 #[.slice none n c] w fun e w' => e = .returned (.slice none 0 0) ∧ w' = w:=Any.slices_Clone_string_nil Tryz.laysNm216 n c w
open Go.RowKit Go.Lib in
theorem Tryz.slices_Clone_string_zero (a:Addr) (c:Nat) (w:World) :
    Calls Tryz.prog 66 #[.slice (some a) 0 c] w fun e w' => ∃ v',e = .returned v' ∧ w'.ownsRow w.heap.size 9 1 v' 0 [] ∧ v' ≠ .slice none 0 0 ∧ Below w.heap.size w w':=Any.slices_Clone_string_zero Tryz.laysNm216 a c w
end Go.Proofs
namespace Go.Proofs.YteaiemfhlpoieaaGreatDoor.syn
open Go.RowKit
set_option linter.unusedVariables false
set_option linter.unusedSimpArgs false
def dg (i:Nat):ByteArray:=⟨(Lib.decDigits i).toArray⟩
theorem dg_size {i:Nat} (h:i < 100):(dg i).size ≤ 2:=by
  unfold dg
  show ((Lib.decDigits i).toArray).size ≤ 2
  by_cases h1:i < 10
  · rw [Lib.decDigits_one h1];simp
  · rw [Lib.decDigits_two h1 h];simp
theorem itoa_any {i:Nat} (h:i < 100) (w:World):Calls Tryz.prog 81 #[.int .i64 i] w fun e w' => e = .returned (.string (dg i)) ∧ w' = w:=Tryz.strconv_Itoa_small i h w
def spv (e:PE) (ad:Option Addr) (cap:Nat) (way:ByteArray):Value:=.agg #[.int .i64 e.k,.string e.nm,.int .i64 e.n,.int .i64 e.d,.slice ad e.args.len cap,.int .i64 e.a,.string way]
theorem exE_call {k n d:Int} {nm:ByteArray} {len:Nat} (h:exE k n d nm len = true):(k = 1 → len = 0) ∧ (k = 2 → 1 ≤ len) ∧ (k ≠ 1 → k ≠ 2 → len = 1):=by
  unfold exE at h
  refine ⟨fun hk => ?_,fun hk => ?_,fun h1 h2 => ?_⟩
  · rw [if_pos hk] at h;simp at h;omega
  · rw [if_neg oq,if_pos hk] at h;simp at h;omega
  · rw [if_neg h1,if_neg h2] at h
    split at h
    · cases h
    · rename_i hn
      have:=not_or.1 hn
      omega
theorem ex_call {e:PE} (h:exprOK e = true):(e.k = 1 → e.args.len = 0) ∧ (e.k = 2 → 1 ≤ e.args.len) ∧ (e.k ≠ 1 → e.k ≠ 2 → e.args.len = 1):=by
  unfold exprOK at h
  rw [Bool.and_eq_true] at h
  exact exE_call h.2
theorem exR_at:∀ (l:PL) (i:Nat) (e:PE),exR l = true → l.at i = some e → exprOK e = true
  | .cons k nm n d args a tl,0,e,h,he => by
    injection he with he;subst he
    rw [exR,Bool.and_eq_true,Bool.and_eq_true] at h
    unfold exprOK
    rw [Bool.and_eq_true]
    exact h.1
  | .cons _ _ _ _ _ _ tl,i + 1,e,h,he => by
    rw [exR,Bool.and_eq_true] at h
    exact exR_at tl i e h.2 he
theorem ex_child {e c:PE} {i:Nat} (h:exprOK e = true) (hc:e.args.at i = some c):exprOK c = true:=by
  unfold exprOK at h
  rw [Bool.and_eq_true] at h
  exact exR_at _ _ _ h.1 hc
theorem ac_at:∀ (l:PL) {W:World} {b o:Nat},AC W l b o → ∀ i e,l.at i = some e → ∃ ad cap,W.cell? ⟨b,o + i * 6,none⟩ = some (.int .i64 e.k) ∧ W.cell? ⟨b,o + i * 6 + 1,none⟩ = some (.string e.nm) ∧ W.cell? ⟨b,o + i * 6 + 2,none⟩ = some (.int .i64 e.n) ∧ W.cell? ⟨b,o + i * 6 + 3,none⟩ = some (.int .i64 e.d) ∧
    W.cell? ⟨b,o + i * 6 + 4,none⟩ = some (.slice ad e.args.len cap) ∧ W.cell? ⟨b,o + i * 6 + 5,none⟩ = some (.int .i64 e.a) ∧ AE W e ad cap
  | .cons k nm n d args a tl,W,b,o,hac,0,e,he => by
    injection he with he
    subst he
    obtain ⟨h0,h1,h2,h3,h5,hn,⟨ad,cap,h4,hcap,hm,hd⟩,ht⟩:=hac
    rw [Nat.zero_mul,Nat.add_zero]
    exact ⟨ad,cap,h0,h1,h2,h3,h4,h5,⟨hn,⟨hcap,hm⟩,hd⟩⟩
  | .cons _ _ _ _ _ _ tl,W,b,o,hac,i + 1,e,he => by
    have:=ac_at tl hac.2.2.2.2.2.2.2 i e he
    rw [show o + (i + 1) * 6 = o + 6 + i * 6 by omega]
    exact this
theorem cells7s {w:World} {b:Nat} {v0 v1 v2 v3 v4 v5 v6:Value} {t:TypeId} (h:w.heap[b]? = some (.cells #[v0,v1,v2,v3,v4,v5,v6] t (0,0))) :
    (w.cell? ⟨b,0,none⟩ = some v0 ∧ w.cell? ⟨b,1,none⟩ = some v1 ∧ w.cell? ⟨b,2,none⟩ = some v2 ∧ w.cell? ⟨b,3,none⟩ = some v3 ∧ w.cell? ⟨b,4,none⟩ = some v4 ∧ w.cell? ⟨b,5,none⟩ = some v5 ∧ w.cell? ⟨b,6,none⟩ = some v6) ∧ ∀ o,w.frozen? ⟨b,o,none⟩ = false:=by
  refine ⟨⟨?_,?_,?_,?_,?_,?_,?_⟩,?_⟩
  all_goals first | (intro o;simp [World.frozen?,h]) | simp [World.cell?,h]
def SA (sb b o len cap:Nat) (ad:Option Addr) (way:ByteArray) (k2:Int) (nm2:ByteArray) (n2 d2:Int) (len2 cap2:Nat) (ad2:Option Addr) (a2:Int) (w':World):Prop :=
  w'.cell? ⟨sb,4,none⟩ = some (.slice ad len cap) ∧ w'.cell? ⟨sb,6,none⟩ = some (.string way) ∧ w'.cell? ⟨b,o,none⟩ = some (.int .i64 k2) ∧ w'.cell? ⟨b,o + 1,none⟩ = some (.string nm2) ∧ w'.cell? ⟨b,o + 2,none⟩ = some (.int .i64 n2) ∧ w'.cell? ⟨b,o + 3,none⟩ = some (.int .i64 d2) ∧ w'.cell? ⟨b,o + 4,none⟩ = some (.slice ad2 len2 cap2) ∧ w'.cell? ⟨b,o + 5,none⟩ = some (.int .i64 a2)
section
variable {sb b o len cap:Nat} {ad:Option Addr} {way:ByteArray} {k2:Int} {nm2:ByteArray} {n2 d2:Int} {len2 cap2:Nat} {ad2:Option Addr} {a2:Int} {w':World}
theorem SA.drew (h:SA sb b o len cap ad way k2 nm2 n2 d2 len2 cap2 ad2 a2 w'):SA sb b o len cap ad way k2 nm2 n2 d2 len2 cap2 ad2 a2 w'.drew:=h
theorem SA.set (h:SA sb b o len cap ad way k2 nm2 n2 d2 len2 cap2 ad2 a2 w') {g j:Nat} (h1:¬ sb = g) (h2:¬ b = g) (u:Value):SA sb b o len cap ad way k2 nm2 n2 d2 len2 cap2 ad2 a2 (w'.setCell ⟨g,j,none⟩ u):=by
  have hc:∀ o,(w'.setCell ⟨g,j,none⟩ u).cell? ⟨b,o,none⟩ = w'.cell? ⟨b,o,none⟩:=fun o => World.cell?_setCell_far _ _ _ _ (fun e => h2 e.symm)
  have hd:∀ o,(w'.setCell ⟨g,j,none⟩ u).cell? ⟨sb,o,none⟩ = w'.cell? ⟨sb,o,none⟩:=fun o => World.cell?_setCell_far _ _ _ _ (fun e => h1 e.symm)
  obtain ⟨x0,x1,x2,x3,x4,x5,x6,x7⟩:=h
  exact ⟨(hd _).trans x0,(hd _).trans x1,(hc _).trans x2,(hc _).trans x3,(hc _).trans x4,(hc _).trans x5,(hc _).trans x6,(hc _).trans x7⟩
end
set_option maxRecDepth 100000 in
set_option maxHeartbeats 2000000 in
theorem arg_any {W0 w:World} (hl:Below W0.heap.size W0 w) (e c:PE) (ad:Option Addr) (cap:Nat) (way:ByteArray) (i:Nat) (h:AE W0 e ad cap) (hc:e.args.at i = some c) (hi:i < e.args.len) (hi2:i < 100) (hw:way.size ≤ 1000) :
    Calls Tryz.prog 65 #[spv e ad cap way,.int .i64 (i:Int)] w fun x w' => (∃ ad2 cap2,x = .returned (spv c ad2 cap2 (way ++ ⟨#[47]⟩ ++ dg i)) ∧ AE W0 c ad2 cap2) ∧ Below w.heap.size w w':=by
  obtain ⟨b,o,rfl,hb,hac⟩:∃ b o,ad = some ⟨b,o,none⟩ ∧ b < W0.heap.size ∧ AC W0 e.args b o:=by
    rcases h.args with h0 | h0
    · rw [h0] at hc;cases hc
    · exact h0
  obtain ⟨ad2,cap2,y0,y1,y2,y3,y4,y5,hae⟩:=ac_at _ hac i c hc
  have HAE:=hid hae
  have hi0:(0:Int) ≤ (i:Int):=by omega
  have hi1:(i:Int) < (e.args.len:Int):=by omega
  have hds:=dg_size hi2
  have hsl:=hl.size
  have HI2:=hid hi2
  obtain ⟨k,nm,n,d,args,a⟩:=e
  obtain ⟨k2,nm2,n2,d2,args2,a2⟩:=c
  unfold spv
  simp only at *
  clear h hac hae hc hi2
  have HL:=hid hl
  clear hl
  go_enter Tryz.func65,Tryz.ntmps65
  go_wp2
  obtain ⟨W2,hW2⟩:∃ W2,(w.alloc (.cells #[.int .i64 k,.string nm,.int .i64 n,.int .i64 d,.slice (some ⟨b,o,none⟩) args.len cap,.int .i64 a,.string way] 121)).alloc (.cells #[.int .i64 0,.string ⟨#[]⟩,.int .i64 0,.int .i64 0,.slice none 0 0,.int .i64 0,.string ⟨#[]⟩] 121) = W2:=⟨_,rfl⟩
  rw [hW2]
  have hB:Below w.heap.size w W2:=by rw [← hW2];exact bq
  have hb0:W2.heap[w.heap.size]? = some (.cells #[.int .i64 k,.string nm,.int .i64 n,.int .i64 d,.slice (some ⟨b,o,none⟩) args.len cap,.int .i64 a,.string way] 121 (0,0)):=by rw [← hW2];exact (Below.heap_alloc _ _ _ (by simp)).trans (heap_new w _)
  have hb1:W2.heap[w.heap.size + 1]? = some (.cells #[.int .i64 0,.string ⟨#[]⟩,.int .i64 0,.int .i64 0,.slice none 0 0,.int .i64 0,.string ⟨#[]⟩] 121 (0,0)):=by rw [← hW2];simpa using heap_new (w.alloc _) _
  obtain ⟨⟨_,_,_,_,s4,_,s6⟩,_⟩:=cells7s hb0
  obtain ⟨⟨z0,z1,z2,z3,z4,z5,z6⟩,zf⟩:=cells7s hb1
  have hcb:=fun o => (hB.cell (p:=⟨b,o,none⟩) (Nat.lt_of_lt_of_le hb hsl)).trans (HL.out.cell (p:=⟨b,o,none⟩) hb)
  have HB:=hid hB
  have HB1:=hid hb1
  have KA:=hid (show SA w.heap.size b (o + i * 6) args.len cap (some ⟨b,o,none⟩) way k2 nm2 n2 d2 args2.len cap2 ad2 a2 W2 from ⟨s4,s6,(hcb _).trans y0,(hcb _).trans y1,(hcb _).trans y2,(hcb _).trans y3,(hcb _).trans y4,(hcb _).trans y5⟩)
  have hne:¬ w.heap.size = w.heap.size + 1:=by omega
  have hq1:¬ 9223372036854775807 < way.size + 1:=by omega
  have hq2:¬ 9223372036854775807 < way.size + 1 + (dg i).size:=by omega
  have hne2:¬ b = w.heap.size + 1:=by omega
  clear hW2 hB hb0 hb1 s4 s6 y0 y1 y2 y3 y4 y5 hcb
  go_region_held3 (fun w' => w'.cell? ⟨w.heap.size,4,none⟩ = some (.slice (some ⟨b,o,none⟩) args.len cap) ∧ w'.cell? ⟨w.heap.size,6,none⟩ = some (.string way) ∧ w'.cell? ⟨b,o + i * 6,none⟩ = some (.int .i64 k2) ∧ w'.cell? ⟨b,o + i * 6 + 1,none⟩ = some (.string nm2) ∧ w'.cell? ⟨b,o + i * 6 + 2,none⟩ = some (.int .i64 n2) ∧ w'.cell? ⟨b,o + i * 6 + 3,none⟩ = some (.int .i64 d2) ∧ w'.cell? ⟨b,o + i * 6 + 4,none⟩ = some (.slice ad2 args2.len cap2) ∧ w'.cell? ⟨b,o + i * 6 + 5,none⟩ = some (.int .i64 a2)) ((show SA w.heap.size b (o + i * 6) args.len cap (some ⟨b,o,none⟩) way k2 nm2 n2 d2 args2.len cap2 ad2 a2 _;repeat (first | with_reducible exact KA.out | with_reducible refine SA.drew ?_ | (with_reducible refine SA.set ?_ hne hne2 _)))) (first | (go_at_call 81;refine (itoa_any HI2.out _).mono ?_;rintro x w1 ⟨rfl,rfl⟩))
  all_goals
    go_wp2
    refine bodyPost_ret (v:=spv ⟨k2,nm2,n2,d2,args2,a2⟩ ad2 cap2 (way ++ ⟨#[47]⟩ ++ dg i)) ?_ rfl ?_
    · simp only [results,Tryz.results65,spv]
      go_simp
    · exact ⟨⟨ad2,cap2,rfl,HAE.out⟩,bq⟩
end Go.Proofs.YteaiemfhlpoieaaGreatDoor.syn
