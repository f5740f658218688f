/- Parts of the proof. -/
import Derived.Test.YtlhlcdjiafdoeaaGreatDoorV10
import Derived.Test.YtlhlcdjiafdoeaaGreatDoorV13
import Derived.Test.YtlhlcdjiafdoeaaGreatDoorV16
set_option linter.all false
set_option maxRecDepth 100000
set_option maxHeartbeats 16000000
namespace Go.Proofs.YtlhlcdjiafdoeaaGreatDoor.syn
open Go.RowKit
theorem ZcM:∀(l:List IN) (e:Env),RtE e→(∀x∈l,clock.YA x.per x.ph=true)→RtE (UQ l e):=by
 intro l
 induction l with
 | nil=>intro e h _;exact h
 | cons x l ih =>
  intro e h hx
  refine ih _ (fun nm c hc=>?_) (fun y hy=>hx y (List.mem_cons_of_mem _ hy))
  unfold upd at hc
  by_cases hn:nm=x.nm
  ·rw[Z0 hn] at hc;injection hc with hc;rw[←hc];exact hx x List.mem_cons_self
  rw[ZZ hn] at hc;exact h nm c hc
theorem ZaD {ins:List IN} (h:∀x∈ins,clock.YA x.per x.ph=true):RtE (YX ins):=ZcM ins _ (fun nm c hc=>by cases hc) h
theorem GrE.trans {a:Env} {flows:List FL} {b c:Env} (h:GrE a flows b) (k:GrE b flows c):GrE a flows c:=by
 induction k with
 | base=>exact h
 | step _ h1 h2 h3 ih=>exact .step ih h1 h2 h3
structure xy (p:PG) (env:Env):Prop where
 rt:RtE env
 ext:ew (YX p.ins) env
 gr:GrE (YX p.ins) p.flows env
 calls:Q6 env p.flows=true
 flows:∀f∈p.flows,FcS env f
def Za7 (w:World) (p:PG) (x:Ending) (w':World):Prop :=
 ((∃a e,e≠0∧x=.returned (.tuple #[.slice none 0 0,.int .i64 a,.int .i64 e]))∨∃v env,x=.returned (.tuple #[v,.int .i64 0,.int .i64 0])∧xy p env∧Za8 w' v (p.flows.map (fun f=>Jf env f.nm)))∧Below w.heap.size w w'
def L2G (w W:World) (mb:Nat) (p:PG) (v:Value) (wr:World):Prop :=
 ∃(j:Nat) (env:Env) (L:List (ByteArray × Value)),v=.int .i64 (j:Int)∧j≤4∧CW w W wr mb∧YJ wr mb L∧Xt L env∧RtE env∧ew (YX p.ins) env∧GrE (YX p.ins) p.flows env∧(2≤j→∀f∈p.flows,∃c,env f.nm=some c)∧(3≤j→Q6 env p.flows=true)∧(4≤j→∀f∈p.flows,FcS env f)
theorem Uu {x:Ending} (h:Ex x):∃a e,e≠0∧(e == 0)=false∧x=.returned (.tuple #[.int .i64 a,.int .i64 e]):=by
 obtain⟨a,e,h1,h2⟩:=h
 exact⟨a,e,h1,ZW.2 h1,h2⟩
theorem Kw {w:World} (p:PG) (an ai af ao:Option Addr) (cn ci cf co:Nat) (hp:AP w p an ai af ao cn ci cf co) (hs:GH p.nodes+Gu p.flows≤8000) (hl:p.flows.length≤1000) (hI:∀x∈p.ins,clock.YA x.per x.ph=true) :
  Calls Tryz.prog 17 #[pv p an ai af ao cn ci cf co] w (Za7 w p):=by
 obtain⟨nodes,ins,flows,outs⟩:=p
 have hR0:=ZaD hI
 simp only at hs hl hR0
 have HFT:=hid (fun(w':World) (hb:Below w.heap.size w w')=>QU ⟨nodes,ins,flows,outs⟩ an ai af ao cn ci cf co (hp.below hb) hs)
 unfold pv at HFT
 simp only at HFT
 have HI:=hid hp.ins
 have HF:=hid hp.flows
 have hcap:=hp.caps
 simp only at hcap
 have hil:ins.length≤9223372036854775807:=oq
 have hfl:flows.length≤9223372036854775807:=oq
 have HR0:=hid hR0
 clear hp hI hR0
 unfold pv
 simp only
 have hmk:=fun w=>run_makeMap (P:=Tryz.prog) 111 w
 go_enter Tryz.func17,Tryz.ntmps17
 go_wp2_with (go_at_call 40;refine(HFT.out _ bq).mono ?_;rintro x w1 ⟨rfl,hb1⟩;obtain⟨hc1,hf1⟩:=Yx hb1;have b1:w.heap.size<w1.heap.size:=Yv hb1 oq)
 have HB1:=hid hb1
 have hpb0:(w1.alloc (.map #[] 0)).heap[w.heap.size]?=some (.cells #[.slice an nodes.length cn,.slice ai ins.length ci,.slice af flows.length cf,.slice ao outs.length co] 27 (0,0)):=(Za _ _ _ b1).trans ((hb1.block _ oq).trans (Yt w _))
 have HCW0:=hid (show CW w (w1.alloc (.map #[] 0)) (w1.alloc (.map #[] 0)) w1.heap.size from ⟨Upon.refl _ _,by simp;omega,bq,b1⟩)
 have HM0:=hid (YJ.new w1)
 have HPB0:=hid hpb0
 generalize w1.alloc (.map #[] 0)=W1 at *
 obtain⟨mb,hmb⟩:∃mb,w1.heap.size=mb:=⟨_,rfl⟩
 rw[hmb] at b1 HCW0 HM0 ⊢
 clear hmb hc1 hf1 hb1 HB1 hpb0
 go_loopw [22] (fun v wr=>Hid (Zce w W1 mb ins v wr)) (fun i _=>ins.length-(intOf i).toNat)
 case atStart=>exact⟨0,fun _=>none,[],rfl,Zk _,HCW0.out,HM0.out,kj,rfl⟩
 obtain⟨i,env,L,rfl,hi,hcw,hM,hE,hen⟩:=hrel.out
 clear hrel
 have HM:=hid hM
 have HCW:=hid hcw
 have HE:=hid hE
 have hlow:=hcw.low
 have hmlt:=hM.lt
 have hszr:=hlow.size
 have hpb:=(hcw.upon.block _ (Zb HPB0.out) oq).trans HPB0.out
 obtain⟨⟨p0,p1,p2,p3⟩,pf⟩:=Yu hpb
 have HPB:=hid hpb
 have hplt:=Zb hpb
 clear hcw hM hE hpb
 by_cases hlt:i<ins.length
 ·obtain⟨bb,oo,rfl,hbb0,hin0⟩:=HI.out.at hlt
  have hin:=hin0.later hlow hbb0
  rw[js hlt] at hen
  obtain⟨f,hf⟩:∃f,ins[i]=f:=⟨_,rfl⟩
  rw[hf] at hin hen
  obtain⟨nm,per,ph,fa⟩:=f
  obtain⟨y0,y1,y2,y3,_⟩:=hin
  simp only at y0 y1 y2 y3
  have HEN:=hid (show UQ (ins.drop (i+1)) (upd env nm (per,ph))=YX ins from hen)
  have hie:(i:Int)<(ins.length:Int):=oq
  have hbb:bb<wr.heap.size:=oq
  clear hin0 hen hlow
  go_wp2_with (at_mapUpdate;refine Xe Xc _ rfl _ _ _ rfl mb L nm (cvv (per,ph)) rfl rfl rfl (HM.out.below bq) ?_;intro arr clock hm2)
  refine⟨⟨i+1,upd env nm (per,ph),_,by go_num,oq,⟨HCW.out.upon.trans (YI ((Upon.refl _ _).alloc _) _),HCW.out.size,HCW.out.below,b1⟩,hm2,HE.out.put nm (per,ph),HEN.out⟩,by simp[intOf];omega⟩
 have hie:i=ins.length:=oq
 subst hie
 have he0:env=YX ins:=by rw[Ym] at hen;exact hen
 subst he0
 clear hen
 obtain⟨W2,hW2⟩:∃W2,wr.alloc (Obj.cells #[.func (.func 41) #[.map (some mb)] #[],.func (.func 42) #[.map (some mb)] #[],.func (.func 43) #[.map (some mb)] #[],.func (.func 44) #[.map (some mb)] #[]] 112)=W2:=⟨_,rfl⟩
 obtain⟨fb,hfb⟩:∃fb,wr.heap.size=fb:=⟨_,rfl⟩
 go_wp2
 try rw[hW2]
 have HFB:=hid (show W2.heap[fb]?=some _ from by rw[←hW2,←hfb];exact Yt wr _)
 have hW2s:W2.heap.size=fb+1:=by rw[←hW2,←hfb];simp
 have HPB2:=hid (show W2.heap[w.heap.size]?=some (.cells #[.slice an nodes.length cn,.slice ai ins.length ci,.slice af flows.length cf,.slice ao outs.length co] 27 (0,0)) from by rw[←hW2];exact(Za _ _ _ hplt).trans HPB.out)
 have HCW2:=hid (show CW w W2 W2 mb from ⟨Upon.refl _ _,oq,by rw[←hW2];exact hlow.alloc hszr _,b1⟩)
 have HM2:=hid (show YJ W2 mb L from by rw[←hW2];exact HM.out.below bq)
 rw[hfb] at hmlt
 clear hW2 hfb hlow hszr hplt p0 p1 p2 p3 pf HPB HM HCW HPB0 HM0 HCW0
 go_loopw [45] (fun v wr=>Hid (L2G w W2 mb ⟨nodes,ins,flows,outs⟩ v wr)) (fun i _=>4-(intOf i).toNat)
 case atStart=>exact⟨0,YX ins,L,rfl,oq,HCW2.out,HM2.out,HE.out,HR0.out,fun _ _ h=>h,.base,fun h=>absurd h oq,fun h=>absurd h oq,fun h=>absurd h oq⟩
 obtain⟨j,env,L2,rfl,hj,hcw,hM,hE,hrt,hex,hgr,hj2,hj3,hj4⟩:=hrel.out
 clear hrel
 simp only at hex hgr hj2 hj3 hj4
 have HGR:=hid hgr
 have HRT:=hid hrt
 have HEX:=hid hex
 have hlow:=hcw.low
 have hszr:=hlow.size
 have hpb:=(hcw.upon.block _ (Zb HPB2.out) oq).trans HPB2.out
 have hfbk:=(hcw.upon.block _ (Zb HFB.out) oq).trans HFB.out
 obtain⟨⟨p0,p1,p2,p3⟩,pf⟩:=Yu hpb
 obtain⟨⟨q0,q1,q2,q3⟩,qf⟩:=Yu hfbk
 have HPB:=hid hpb
 have hrow:=HF.out.below JI hlow
 have HM:=hid hM
 have HE2:=hid hE
 have HCW:=hid hcw
 match j,hj with
 | 0,_ =>
  have HC:=hid (ku (W0:=w) (w:=wr) flows af cf mb L2 env hlow (Nat.le_of_lt b1) HF.out hcap.2.2.1.1 hcap.2.2.1.2 hM hE hrt)
  have HJ2:=hid hj2
  have HJ3:=hid hj3
  clear hcw hM hE hrow hpb hfbk hrt hex hj2 hj3 hj4 hlow
  go_wp2_with (go_at_call 41;refine HC.out.mono ?_;rintro x w3 ⟨hx3,hu3⟩;unfold Vq at hx3;rcases hx3 with hx3|⟨rfl,L3,env3,hM3,hE3,hR3,hX3,hG3⟩;obtain⟨ab,eb,heb,heb',rfl⟩:=Uu hx3)
  all_goals first|(go_ret3;exact⟨.inl ⟨ab,eb,heb,rfl⟩,HCW.out.low.trans (hu3.below hszr (Nat.le_of_lt b1))⟩)|exact⟨⟨1,env3,L3,by go_num,oq,⟨HCW.out.upon.trans hu3,HCW.out.size,HCW.out.below,b1⟩,hM3,hE3,hR3,fun nm c h=>hX3 nm c (HEX.out nm c h),HGR.out.trans hG3,fun h=>absurd h oq,fun h=>absurd h oq,fun h=>absurd h oq⟩,by simp[intOf]⟩
 | 1,_ =>
  have HC:=hid (EH (w:=wr) flows af cf mb L2 env hrow hcap.2.2.1.1 hcap.2.2.1.2 hM hE)
  have HJ2:=hid hj2
  have HJ3:=hid hj3
  clear hcw hM hE hrow hpb hfbk hrt hex hj2 hj3 hj4 hlow
  go_wp2_with (go_at_call 42;refine HC.out.mono ?_;rintro x w3 ⟨hx3,hb3⟩;unfold Vq at hx3;rcases hx3 with hx3|⟨rfl,hall⟩;obtain⟨ab,eb,heb,heb',rfl⟩:=Uu hx3)
  all_goals first|(go_ret3;exact⟨.inl ⟨ab,eb,heb,rfl⟩,HCW.out.low.trans (hb3.mono hszr)⟩)|exact⟨⟨2,env,L2,by go_num,oq,⟨HCW.out.upon.trans (Upon.of_below hb3),HCW.out.size,HCW.out.below,b1⟩,HM.out.below hb3,HE2.out,HRT.out,HEX.out,HGR.out,fun _=>hall,fun h=>absurd h oq,fun h=>absurd h oq⟩,by simp[intOf]⟩
 | 2,_ =>
  have HC:=hid (EE (w:=wr) flows af cf mb L2 env hrow hcap.2.2.1.1 hcap.2.2.1.2 hM hE)
  have HJ2:=hid (hj2 oq)
  clear hcw hM hE hrow hpb hfbk hrt hex hj2 hj3 hj4 hlow
  cases hck:Q6 env flows with
  | false =>
   rw[hck] at HC
   go_wp2_with (go_at_call 43;go_loud (refine HC.out.mono ?_;rintro x w3 ⟨⟨ab,eb,heb,rfl⟩,hb3⟩;have heb':(eb == 0)=false:=ZW.2 heb))
   go_ret3
   exact⟨.inl ⟨ab,eb,heb,rfl⟩,HCW.out.low.trans (hb3.mono hszr)⟩
  | true =>
   rw[hck] at HC
   go_wp2_with (go_at_call 43;go_loud (refine HC.out.mono ?_;rintro x w3 ⟨he,hb3⟩;obtain rfl:x=.returned (.tuple #[.int .i64 0,.int .i64 0]):=he))
   refine⟨⟨3,env,L2,by go_num,oq,⟨HCW.out.upon.trans (Upon.of_below hb3),HCW.out.size,HCW.out.below,b1⟩,HM.out.below hb3,HE2.out,HRT.out,HEX.out,HGR.out,fun _=>HJ2.out,fun _=>hck,fun h=>absurd h oq⟩,by simp[intOf]⟩
 | 3,_ =>
  have HC:=hid (EG (w:=wr) flows af cf mb L2 env hrow hcap.2.2.1.1 hcap.2.2.1.2 hM hE (hj2 oq) hrt)
  have HJ2:=hid hj2
  have HJ3:=hid hj3
  clear hcw hM hE hrow hpb hfbk hrt hex hj2 hj3 hj4 hlow
  go_wp2_with (go_at_call 44;refine HC.out.mono ?_;rintro x w3 ⟨hx3,hb3⟩;unfold Vq at hx3;rcases hx3 with hx3|⟨rfl,hfc⟩;obtain⟨ab,eb,heb,heb',rfl⟩:=Uu hx3)
  all_goals first|(go_ret3;exact⟨.inl ⟨ab,eb,heb,rfl⟩,HCW.out.low.trans (hb3.mono hszr)⟩)|exact⟨⟨4,env,L2,by go_num,oq,⟨HCW.out.upon.trans (Upon.of_below hb3),HCW.out.size,HCW.out.below,b1⟩,HM.out.below hb3,HE2.out,HRT.out,HEX.out,HGR.out,fun _=>HJ2.out oq,fun _=>HJ3.out oq,fun _=>hfc⟩,by simp[intOf]⟩
 | 4,_ =>
  have hhas:=hj2 oq
  have HHAS:=hid hhas
  have HCF:=hid (show xy ⟨nodes,ins,flows,outs⟩ env from ⟨hrt,hex,hgr,hj3 oq,hj4 oq⟩)
  obtain⟨W3,hW3⟩:∃W3,wr.alloc (.cells (madeCells #[.int .i64 0,.int .i64 0] (flows.length*2)) 50)=W3:=⟨_,rfl⟩
  obtain⟨b,hb⟩:∃b,wr.heap.size=b:=⟨_,rfl⟩
  have hplt:=Zb hpb
  have hmlt2:=hM.lt
  have hpb3:W3.heap[w.heap.size]?=some (.cells #[.slice an nodes.length cn,.slice ai ins.length ci,.slice af flows.length cf,.slice ao outs.length co] 27 (0,0)):=by rw[←hW3];exact(Za _ _ _ hplt).trans hpb
  obtain⟨⟨r0,r1,r2,r3⟩,rf⟩:=Yu hpb3
  clear hcw hM hE hrow hfbk hrt hex hj2 hj3 hj4 hhas
  go_wp2_with (at_make;refine uC _ rfl _ _ rfl flows.length rfl rfl hl ?_)
  try rw[hW3]
  try rw[hb]
  have hB3:W3.heap[b]?=some (.cells (madeCells #[.int .i64 0,.int .i64 0] (flows.length*2)) 50 (0,0)):=by rw[←hW3,←hb];exact Yt wr _
  have HB3:=hid hB3
  have hW3s:W3.heap.size=b+1:=by rw[←hW3,←hb];simp
  have hlow3:Below w.heap.size w W3:=by rw[←hW3];exact hlow.alloc hszr _
  have HLOW:=hid hlow3
  have HM3:=hid (show YJ W3 mb L2 from by rw[←hW3];exact HM.out.below bq)
  rw[hb] at hmlt2 hplt hszr
  clear hW3 hb hlow3 hlow hB3 hpb hpb3 HM HPB HCW p0 p1 p2 p3 pf q0 q1 q2 q3 qf r0 r1 r2 r3 rf
  go_loopw [68] (fun v wr=>Hid (Zcf w W3 mb b env L2 flows v wr)) (fun i _=>flows.length-(intOf i).toNat)
  case atStart=>exact⟨0,_,rfl,Zk _,Upon.refl _ _,HB3.out,vE _,fun j h hj=>absurd hj oq⟩
  obtain⟨i,arr,rfl,hi,hup,hblk,hasz,hcells⟩:=hrel.out
  clear hrel
  have hlow:=HLOW.out.trans (hup.below oq (Nat.le_of_lt hplt))
  have hszr:=hlow.size
  have hszu:=hup.size
  have HUP:=hid hup
  have HBLK:=hid hblk
  have hca:=GR hblk
  have hM:=HM3.out.upon hup oq
  have HCE:=hid hcells
  by_cases hlt:i<flows.length
  ·obtain⟨bb,oo,rfl,hbb0,hfl0⟩:=HF.out.at hlt
   have hfl':=hfl0.later hlow hbb0
   obtain⟨c,hc⟩:=HHAS.out flows[i] (Zi hlt)
   obtain⟨f,hf⟩:∃f,flows[i]=f:=⟨_,rfl⟩
   have HF2:=hid hf
   rw[hf] at hfl' hc
   obtain⟨nm,⟨k1,nm1,n1,d1,args1,a1⟩,fa⟩:=f
   obtain⟨ad,cap,y0,y1,y2,y3,y4,y5,y6,y7,hae,hfn⟩:=hfl'.cells
   obtain⟨c1,c2⟩:=c
   have HG:=hid (show YT nm L2=some (.agg #[.int .i64 c1,.int .i64 c2]) by rw[HE2.out nm,hc];rfl)
   have hie:(i:Int)<(flows.length:Int):=oq
   have hbb:bb<wr.heap.size:=oq
   have hblt:b<wr.heap.size:=Zb hblk
   have z0:wr.cell? ⟨b,i*2,none⟩=some arr[i*2]:=by rw[(hca _).1];exact Yk oq
   have z1:wr.cell? ⟨b,i*2+1,none⟩=some arr[i*2+1]:=by rw[(hca _).1];exact Yk oq
   have zf0:=(hca (i*2)).2
   have zf1:=(hca (i*2+1)).2
   have HMr:=hid hM
   have HC:=hid hc
   clear hup hblk hcells hca hM hfl' hfl0 hf hc hae hfn hlow hbb0
   go_wp2_with (at_lookup;refine Ul Xc _ rfl _ _ rfl mb L2 nm _ rfl rfl (HMr.out.below bq) HG.out ?_)
   refine⟨⟨i+1,_,by go_num,oq,((HUP.out.setAt (.inl rfl) _).setAt (.inl rfl) _).alloc _,(Za _ _ _ (by simpa [World.setCell] using hblt)).trans (zG (zG HBLK.out (i*2) (.int .i64 c1)) (i*2+1) (.int .i64 c2)),by simpa using hasz,fun j hj hji=>?_⟩,by simp[intOf];omega⟩
   by_cases hjl:j<i
   ·have h:=HCE.out j hj hjl
    rw[Array.getElem?_setIfInBounds_ne oq,Array.getElem?_setIfInBounds_ne oq,Array.getElem?_setIfInBounds_ne oq,Array.getElem?_setIfInBounds_ne oq]
    exact h
   have hje:j=i:=oq
   subst hje
   have hk:Jf env flows[j].nm=(c1,c2):=by rw[HF2.out];unfold Jf;rw[HC.out];rfl
   rw[hk]
   rw[Array.getElem?_setIfInBounds_ne oq,Array.getElem?_setIfInBounds_self_of_lt oq,Array.getElem?_setIfInBounds_self_of_lt (by rw[Array.size_setIfInBounds];omega)]
   exact⟨rfl,rfl⟩
  have hie:i=flows.length:=oq
  subst hie
  clear hup hblk hcells hca hM
  go_wp2
  go_ret3
  refine⟨.inr ⟨_,env,rfl,HCF.out,b,by simp,Zb HBLK.out,fun j hj=>?_⟩,hlow⟩
  have hj':j<flows.length:=by simpa using hj
  have h:=HCE.out j hj' hj'
  have hca:=GR HBLK.out
  refine⟨(hca _).1.trans ?_,(hca _).1.trans ?_⟩
  ·rw[h.1];simp
  rw[h.2];simp
 | j+5,h=>exact absurd h oq
theorem ZaI {c:Nat}:∀l:List ND,(∀x∈l,x.body.sz≤c)→GH l≤l.length*c:=by
 intro l
 induction l with
 | nil=>intro _;simp[GH]
 | cons x l ih =>
  intro h
  have h1:=h x (by simp)
  have h2:=ih (fun y hy=>h y (by simp[hy]))
  unfold PE.sz at h1
  simp only[GH,Zp,Nat.succ_mul]
  omega
theorem ZaH {c:Nat}:∀l:List FL,(∀x∈l,x.e.sz≤c)→Gu l≤l.length*c:=by
 intro l
 induction l with
 | nil=>intro _;simp[Gu]
 | cons x l ih =>
  intro h
  have h1:=h x (by simp)
  have h2:=ih (fun y hy=>h y (by simp[hy]))
  unfold PE.sz at h1
  simp only[Gu,Zp,Nat.succ_mul]
  omega
theorem El {l:PL} (h:szL l 1 100≤100):l.sz+1≤100:=by
 have:=ZbT l 1 100 oq oq h
 omega
structure Jd (p:PG):Prop where
 nodes:∀x∈p.nodes,VJ x.body∧x.body.sz≤100
 flows:∀x∈p.flows,x.e.sz≤100∧YF x.e=true
 lens:p.nodes.length≤40∧p.ins.length≤40∧p.flows.length≤40∧p.outs.length≤40
 sums:GH p.nodes+Gu p.flows≤8000
 ins:∀x∈p.ins,clock.YA x.per x.ph=true
theorem Vs.ok {p:PG} (h:Vs p):Jd p:=by
 have hl:=h.lens
 have h1:∀x∈p.nodes,VJ x.body∧x.body.sz≤100:=fun x hx=>⟨jY (h.nodes x hx).2.2.2.2,El (h.nodes x hx).1⟩
 have h2:∀x∈p.flows,x.e.sz≤100∧YF x.e=true:=fun x hx=>⟨El (h.flows x hx).1,(h.flows x hx).2⟩
 refine⟨h1,h2,oq,?_,fun x hx=>?_⟩
 ·have h3:=ZaI p.nodes (fun x hx=>(h1 x hx).2)
  have h4:=ZaH p.flows (fun x hx=>(h2 x hx).1)
  omega
 obtain⟨h5,h6⟩:=h.ins x hx
 simp only[inB,ZA,Yh] at h5 h6
 exact clock.XL ⟨oq,oq,oq,oq⟩
def ZcU (W2:World) (v:Value) (wr:World):Prop:=∃j:Nat,v=.int .i64 (j:Int)∧j≤4∧Below W2.heap.size W2 wr
theorem vJ {w:World} (p:PG) (an ai af ao:Option Addr) (cn ci cf co:Nat) (hp:AP w p an ai af ao cn ci cf co) (hz:NZ w p.nodes an) (hok:Jd p) :
  Calls Tryz.prog 115 #[pv p an ai af ao cn ci cf co] w fun x w'=>X8 x∧Below w.heap.size w w':=by
 obtain⟨nodes,ins,flows,outs⟩:=p
 have hnz:∀w',Below w.heap.size w w'→NZ w' nodes an:=fun w' hb=>hz.below hp.nodes hb
 have HFT:=hid (fun(w':World) (hb:Below w.heap.size w w')=>QU ⟨nodes,ins,flows,outs⟩ an ai af ao cn ci cf co (hp.below hb) hok.sums)
 have H0:=hid (fun(w':World) (hb:Below w.heap.size w w')=>EI (w:=w') nodes ins flows outs an ai af ao cn ci cf co (hp.below hb) (hnz w' hb) hok.nodes)
 have H1:=hid (fun(w':World) (hb:Below w.heap.size w w')=>Kr (w:=w') nodes ins flows outs an ai af ao cn ci cf co (hp.below hb))
 have H2:=hid (fun(w':World) (hb:Below w.heap.size w w')=>EF (w:=w') nodes ins flows outs an ai af ao cn ci cf co (hp.below hb))
 have H3:=hid (fun(w':World) (hb:Below w.heap.size w w')=>Kq (w:=w') nodes ins flows outs an ai af ao cn ci cf co (hp.below hb))
 clear hp hok hz hnz
 unfold pv X8 at *
 simp only at HFT H0 H1 H2 H3 ⊢
 go_enter Tryz.func115,Tryz.ntmps115
 go_wp2_with (go_at_call 40;refine(HFT.out _ bq).mono ?_;rintro x w1 ⟨rfl,hb1⟩;obtain⟨hc1,hf1⟩:=Yx hb1;have b1:w.heap.size<w1.heap.size:=Yv hb1 oq)
 obtain⟨W2,hW2⟩:∃W2,w1.alloc (Obj.cells #[.func (.func 140) #[] #[],.func (.func 141) #[] #[],.func (.func 142) #[] #[],.func (.func 143) #[] #[]] 209)=W2:=⟨_,rfl⟩
 obtain⟨fb,hfb⟩:∃fb,w1.heap.size=fb:=⟨_,rfl⟩
 have HPB:=hid (show W2.heap[w.heap.size]?=some (.cells #[.slice an nodes.length cn,.slice ai ins.length ci,.slice af flows.length cf,.slice ao outs.length co] 27 (0,0)) from by rw[←hW2];exact(Za _ _ _ b1).trans ((hb1.block _ oq).trans (Yt w _)))
 have HFB:=hid (show W2.heap[fb]?=some _ from by rw[←hW2,←hfb];exact Yt w1 _)
 have HB2:=hid (show Below w.heap.size w W2 from by rw[←hW2];exact bq)
 have hsz2:W2.heap.size=fb+1:=by rw[←hW2,←hfb];simp
 rw[hfb] at b1
 try rw[hW2]
 try rw[hfb]
 clear hW2 hfb hb1 hc1 hf1
 go_loopw [13] (fun v wr=>Hid (ZcU W2 v wr)) (fun i _=>4-(intOf i).toNat)
 case atStart=>exact⟨0,rfl,oq,Zg _ _⟩
 obtain⟨j,rfl,hj,hbel⟩:=hrel.out
 clear hrel
 have hszr:=hbel.size
 have hpb:=(hbel.block _ oq).trans HPB.out
 have hfbk:=(hbel.block _ oq).trans HFB.out
 obtain⟨⟨p0,p1,p2,p3⟩,pf⟩:=Yu hpb
 obtain⟨⟨q0,q1,q2,q3⟩,qf⟩:=Yu hfbk
 have HBW:=hid (HB2.out.trans (hbel.mono oq))
 have HB:=hid hbel
 clear hpb hfbk hbel
 match j,hj with
 | 0,_ =>
  go_wp2_with (go_at_call 140;refine(H0.out _ HBW.out).mono ?_;rintro x w3 ⟨⟨ea,ee,rfl⟩,hb3⟩;have HB3:=hid hb3;clear hb3)
  ·go_ret2
   exact⟨⟨_,_,rfl⟩,HBW.out.trans (HB3.out.mono (by have:=HBW.out.size;omega))⟩
  refine⟨⟨1,by go_num,oq,HB.out.trans (HB3.out.mono hszr)⟩,by simp[intOf]⟩
 | 1,_ =>
  go_wp2_with (go_at_call 141;refine(H1.out _ HBW.out).mono ?_;rintro x w3 ⟨⟨ea,ee,rfl⟩,hb3⟩;have HB3:=hid hb3;clear hb3)
  ·go_ret2
   exact⟨⟨_,_,rfl⟩,HBW.out.trans (HB3.out.mono (by have:=HBW.out.size;omega))⟩
  refine⟨⟨2,by go_num,oq,HB.out.trans (HB3.out.mono hszr)⟩,by simp[intOf]⟩
 | 2,_ =>
  go_wp2_with (go_at_call 142;refine(H2.out _ HBW.out).mono ?_;rintro x w3 ⟨⟨ea,ee,rfl⟩,hb3⟩;have HB3:=hid hb3;clear hb3)
  ·go_ret2
   exact⟨⟨_,_,rfl⟩,HBW.out.trans (HB3.out.mono (by have:=HBW.out.size;omega))⟩
  refine⟨⟨3,by go_num,oq,HB.out.trans (HB3.out.mono hszr)⟩,by simp[intOf]⟩
 | 3,_ =>
  go_wp2_with (go_at_call 143;refine(H3.out _ HBW.out).mono ?_;rintro x w3 ⟨⟨ea,ee,rfl⟩,hb3⟩;have HB3:=hid hb3;clear hb3)
  ·go_ret2
   exact⟨⟨_,_,rfl⟩,HBW.out.trans (HB3.out.mono (by have:=HBW.out.size;omega))⟩
  refine⟨⟨4,by go_num,oq,HB.out.trans (HB3.out.mono hszr)⟩,by simp[intOf]⟩
 | 4,_ =>
  go_wp2
  go_ret2
  exact⟨⟨_,_,rfl⟩,HBW.out⟩
 | j+5,h=>exact absurd h oq
theorem j6 {w:World} (p:PG) (an ai af ao:Option Addr) (cn ci cf co:Nat) (hp:AP w p an ai af ao cn ci cf co) (hz:NZ w p.nodes an) (hok:Jd p) :
  Calls Tryz.prog 73 #[pv p an ai af ao cn ci cf co] w (Za7 w p):=by
 have HNM:=hid (fun(w':World) (hb:Below w.heap.size w w')=>vJ (w:=w') p an ai af ao cn ci cf co (hp.below hb) (hz.below hp.nodes hb) hok)
 have HCL:=hid (fun(w':World) (hb:Below w.heap.size w w')=>Kw (w:=w') p an ai af ao cn ci cf co (hp.below hb) hok.sums (by have:=hok.lens;omega) hok.ins)
 obtain⟨nodes,ins,flows,outs⟩:=p
 clear hp hz hok
 unfold pv at *
 unfold X8 at HNM
 unfold Za7 at HCL ⊢
 simp only at HNM HCL ⊢
 go_enter Tryz.func73,Tryz.ntmps73
 go_wp2_with (first|(go_at_call 115;refine(HNM.out _ bq).mono ?_;rintro x w1 ⟨⟨ea,ee,rfl⟩,hb1⟩;obtain⟨hc1,hf1⟩:=Yx hb1;have b1:w.heap.size<w1.heap.size:=Yv hb1 oq)|(go_at_call 17;refine(HCL.out _ bq).mono ?_;rintro x w2 ⟨hx2,hb2⟩;rcases hx2 with ⟨a2,e2,he2,rfl⟩|⟨v,env,rfl,hcf,hrow⟩))
 ·have hne:ee≠0:=by rename_i hq;simpa using hq
  go_ret3
  exact⟨.inl ⟨ea,ee,hne,rfl⟩,bq⟩
 ·go_ret3
  exact⟨.inl ⟨a2,e2,he2,rfl⟩,bq⟩
 go_ret3
 exact⟨.inr ⟨v,env,rfl,hcf,hrow⟩,bq⟩
def dg (i:Nat):ByteArray:=⟨(Lib.decDigits i).toArray⟩
theorem Ju {i:Nat} (h:i<100):(dg i).size≤2:=by
 unfold dg
 show((Lib.decDigits i).toArray).size≤2
 by_cases h1:i<10
 ·rw[Lib.decDigits_one h1];simp
 rw[Lib.decDigits_two h1 h];simp
theorem yc {i:Nat} (h:i<100) (w:World):Calls Tryz.prog 118 #[.int .i64 i] w fun e w'=>e=.returned (.string (dg i))∧w'=w:=Tryz.strconv_Itoa_small i h w
def spv (e:PE) (ad:Option Addr) (cap:Nat) (way:ByteArray):Value:=.agg #[.int .i64 e.k,.string e.nm,.int .i64 e.n,.int .i64 e.d,.slice ad e.args.len cap,.int .i64 e.a,.string way]
theorem ko {k n d:Int} {nm:ByteArray} {len:Nat} (h:exE k n d nm len=true):(k=1→len=0)∧(k=2→1≤len)∧(k≠1→k≠2→len=1):=by
 unfold exE at h
 refine⟨fun hk=>?_,fun hk=>?_,fun h1 h2=>?_⟩
 ·rw[Z0 hk] at h;simp at h;omega
 ·rw[ZZ oq,Z0 hk] at h;simp at h;omega
 rw[ZZ h1,ZZ h2] at h
 split at h
 ·cases h
 rename_i hn
 have:=not_or.1 hn
 omega
theorem U9 {e:PE} (h:YF e=true):(e.k=1→e.args.len=0)∧(e.k=2→1≤e.args.len)∧(e.k≠1→e.k≠2→e.args.len=1):=by
 unfold YF at h
 rw[ZA] at h
 exact ko h.2
theorem KE:∀(l:PL) (i:Nat) (e:PE),exR l=true→l.at i=some e→YF e=true
 | .cons k nm n d args a tl,0,e,h,he=>by
  injection he with he;subst he
  rw[exR,ZA,ZA] at h
  unfold YF
  rw[ZA]
  exact h.1
 | .cons _ _ _ _ _ _ tl,i+1,e,h,he=>by
  rw[exR,ZA] at h
  exact KE tl i e h.2 he
theorem JO {e c:PE} {i:Nat} (h:YF e=true) (hc:e.args.at i=some c):YF c=true:=by
 unfold YF at h
 rw[ZA] at h
 exact KE _ _ _ h.1 hc
theorem jj:∀(l:PL) {W:World} {b o:Nat},AC W l b o→∀i e,l.at i=some e→∃ad cap,W.cell? ⟨b,o+i*6,none⟩=some (.int .i64 e.k)∧W.cell? ⟨b,o+i*6+1,none⟩=some (.string e.nm)∧W.cell? ⟨b,o+i*6+2,none⟩=some (.int .i64 e.n)∧W.cell? ⟨b,o+i*6+3,none⟩=some (.int .i64 e.d) ∧
  W.cell? ⟨b,o+i*6+4,none⟩=some (.slice ad e.args.len cap)∧W.cell? ⟨b,o+i*6+5,none⟩=some (.int .i64 e.a)∧AE W e ad cap
 | .cons k nm n d args a tl,W,b,o,hac,0,e,he=>by
  injection he with he
  subst he
  obtain⟨h0,h1,h2,h3,h5,hn,⟨ad,cap,h4,hcap,hm,hd⟩,ht⟩:=hac
  rw[Nat.zero_mul,Nat.add_zero]
  exact⟨ad,cap,h0,h1,h2,h3,h4,h5,⟨hn,⟨hcap,hm⟩,hd⟩⟩
 | .cons _ _ _ _ _ _ tl,W,b,o,hac,i+1,e,he=>by
  have:=jj tl hac.2.2.2.2.2.2.2 i e he
  rw[show o+(i+1)*6=o+6+i*6 by omega]
  exact this
theorem YP {w:World} {b:Nat} {v0 v1 v2 v3 v4 v5 v6:Value} {t:TypeId} (h:w.heap[b]?=some (.cells #[v0,v1,v2,v3,v4,v5,v6] t (0,0))) :
  (w.cell? ⟨b,0,none⟩=some v0∧w.cell? ⟨b,1,none⟩=some v1∧w.cell? ⟨b,2,none⟩=some v2∧w.cell? ⟨b,3,none⟩=some v3∧w.cell? ⟨b,4,none⟩=some v4∧w.cell? ⟨b,5,none⟩=some v5∧w.cell? ⟨b,6,none⟩=some v6)∧∀o,w.frozen? ⟨b,o,none⟩=false:=by
 refine⟨⟨?_,?_,?_,?_,?_,?_,?_⟩,?_⟩
 all_goals first|(intro o;simp[World.frozen?,h])|simp[World.cell?,h]
def SA (sb b o len cap:Nat) (ad:Option Addr) (way:ByteArray) (k2:Int) (nm2:ByteArray) (n2 d2:Int) (len2 cap2:Nat) (ad2:Option Addr) (a2:Int) (w':World):Prop :=
 w'.cell? ⟨sb,4,none⟩=some (.slice ad len cap)∧w'.cell? ⟨sb,6,none⟩=some (.string way)∧w'.cell? ⟨b,o,none⟩=some (.int .i64 k2)∧w'.cell? ⟨b,o+1,none⟩=some (.string nm2)∧w'.cell? ⟨b,o+2,none⟩=some (.int .i64 n2)∧w'.cell? ⟨b,o+3,none⟩=some (.int .i64 d2)∧w'.cell? ⟨b,o+4,none⟩=some (.slice ad2 len2 cap2)∧w'.cell? ⟨b,o+5,none⟩=some (.int .i64 a2)
section
variable {sb b o len cap:Nat} {ad:Option Addr} {way:ByteArray} {k2:Int} {nm2:ByteArray} {n2 d2:Int} {len2 cap2:Nat} {ad2:Option Addr} {a2:Int} {w':World}
theorem SA.drew (h:SA sb b o len cap ad way k2 nm2 n2 d2 len2 cap2 ad2 a2 w'):SA sb b o len cap ad way k2 nm2 n2 d2 len2 cap2 ad2 a2 w'.drew:=h
theorem SA.set (h:SA sb b o len cap ad way k2 nm2 n2 d2 len2 cap2 ad2 a2 w') {g j:Nat} (h1:¬sb=g) (h2:¬b=g) (u:Value):SA sb b o len cap ad way k2 nm2 n2 d2 len2 cap2 ad2 a2 (w'.setCell ⟨g,j,none⟩ u):=by
 have hc:∀o,(w'.setCell ⟨g,j,none⟩ u).cell? ⟨b,o,none⟩=w'.cell? ⟨b,o,none⟩:=fun o=>ZF _ _ _ _ (fun e=>h2 e.symm)
 have hd:∀o,(w'.setCell ⟨g,j,none⟩ u).cell? ⟨sb,o,none⟩=w'.cell? ⟨sb,o,none⟩:=fun o=>ZF _ _ _ _ (fun e=>h1 e.symm)
 obtain⟨x0,x1,x2,x3,x4,x5,x6,x7⟩:=h
 exact⟨(hd _).trans x0,(hd _).trans x1,(hc _).trans x2,(hc _).trans x3,(hc _).trans x4,(hc _).trans x5,(hc _).trans x6,(hc _).trans x7⟩
end
theorem eH {W0 w:World} (hl:Below W0.heap.size W0 w) (e c:PE) (ad:Option Addr) (cap:Nat) (way:ByteArray) (i:Nat) (h:AE W0 e ad cap) (hc:e.args.at i=some c) (hi:i<e.args.len) (hi2:i<100) (hw:way.size≤1000) :
  Calls Tryz.prog 81 #[spv e ad cap way,.int .i64 (i:Int)] w fun x w'=>(∃ad2 cap2,x=.returned (spv c ad2 cap2 (way++⟨#[47]⟩++dg i))∧AE W0 c ad2 cap2)∧Below w.heap.size w w':=by
 obtain⟨b,o,rfl,hb,hac⟩:∃b o,ad=some ⟨b,o,none⟩∧b<W0.heap.size∧AC W0 e.args b o:=by
  rcases h.args with h0|h0
  ·rw[h0] at hc;cases hc
  exact h0
 obtain⟨ad2,cap2,y0,y1,y2,y3,y4,y5,hae⟩:=jj _ hac i c hc
 have HAE:=hid hae
 have hi0:(0:Int)≤(i:Int):=oq
 have hi1:(i:Int)<(e.args.len:Int):=oq
 have hds:=Ju hi2
 have hsl:=hl.size
 have HI2:=hid hi2
 obtain⟨k,nm,n,d,args,a⟩:=e
 obtain⟨k2,nm2,n2,d2,args2,a2⟩:=c
 unfold spv
 simp only at *
 clear h hac hae hc hi2
 have HL:=hid hl
 clear hl
 go_enter Tryz.func81,Tryz.ntmps81
 go_wp2
 obtain⟨W2,hW2⟩:∃W2,(w.alloc (.cells #[.int .i64 k,.string nm,.int .i64 n,.int .i64 d,.slice (some ⟨b,o,none⟩) args.len cap,.int .i64 a,.string way] 157)).alloc (.cells #[.int .i64 0,.string ⟨#[]⟩,.int .i64 0,.int .i64 0,.slice none 0 0,.int .i64 0,.string ⟨#[]⟩] 157)=W2:=⟨_,rfl⟩
 rw[hW2]
 have hB:Below w.heap.size w W2:=by rw[←hW2];exact bq
 have hb0:W2.heap[w.heap.size]?=some (.cells #[.int .i64 k,.string nm,.int .i64 n,.int .i64 d,.slice (some ⟨b,o,none⟩) args.len cap,.int .i64 a,.string way] 157 (0,0)):=by rw[←hW2];exact(Za _ _ _ (by simp)).trans (Yt w _)
 have hb1:W2.heap[w.heap.size+1]?=some (.cells #[.int .i64 0,.string ⟨#[]⟩,.int .i64 0,.int .i64 0,.slice none 0 0,.int .i64 0,.string ⟨#[]⟩] 157 (0,0)):=by rw[←hW2];simpa using Yt (w.alloc _) _
 obtain⟨⟨_,_,_,_,s4,_,s6⟩,_⟩:=YP hb0
 obtain⟨⟨z0,z1,z2,z3,z4,z5,z6⟩,zf⟩:=YP hb1
 have hcb:=fun o=>(hB.cell (p:=⟨b,o,none⟩) (Zd hb hsl)).trans (HL.out.cell (p:=⟨b,o,none⟩) hb)
 have HB:=hid hB
 have HB1:=hid hb1
 have KA:=hid (show SA w.heap.size b (o+i*6) args.len cap (some ⟨b,o,none⟩) way k2 nm2 n2 d2 args2.len cap2 ad2 a2 W2 from ⟨s4,s6,(hcb _).trans y0,(hcb _).trans y1,(hcb _).trans y2,(hcb _).trans y3,(hcb _).trans y4,(hcb _).trans y5⟩)
 have hne:¬w.heap.size=w.heap.size+1:=oq
 have hq1:¬9223372036854775807<way.size+1:=oq
 have hq2:¬9223372036854775807<way.size+1+(dg i).size:=oq
 have hne2:¬b=w.heap.size+1:=oq
 clear hW2 hB hb0 hb1 s4 s6 y0 y1 y2 y3 y4 y5 hcb
 go_region_held3 (fun w'=>w'.cell? ⟨w.heap.size,4,none⟩=some (.slice (some ⟨b,o,none⟩) args.len cap)∧w'.cell? ⟨w.heap.size,6,none⟩=some (.string way)∧w'.cell? ⟨b,o+i*6,none⟩=some (.int .i64 k2)∧w'.cell? ⟨b,o+i*6+1,none⟩=some (.string nm2)∧w'.cell? ⟨b,o+i*6+2,none⟩=some (.int .i64 n2)∧w'.cell? ⟨b,o+i*6+3,none⟩=some (.int .i64 d2)∧w'.cell? ⟨b,o+i*6+4,none⟩=some (.slice ad2 args2.len cap2)∧w'.cell? ⟨b,o+i*6+5,none⟩=some (.int .i64 a2)) ((show SA w.heap.size b (o+i*6) args.len cap (some ⟨b,o,none⟩) way k2 nm2 n2 d2 args2.len cap2 ad2 a2 _;repeat (first|with_reducible exact KA.out|with_reducible refine SA.drew ?_|(with_reducible refine SA.set ?_ hne hne2 _)))) (first|(go_at_call 118;refine(yc HI2.out _).mono ?_;rintro x w1 ⟨rfl,rfl⟩))
 all_goals
  go_wp2
  refine Zl (v:=spv ⟨k2,nm2,n2,d2,args2,a2⟩ ad2 cap2 (way++⟨#[47]⟩++dg i)) ?_ rfl ?_
  ·simp only[results,Tryz.results81,spv]
   go_simp
  exact⟨⟨ad2,cap2,rfl,HAE.out⟩,bq⟩
def SF (pb b o:Nat) (v:Value) (k2:Int) (nm2:ByteArray) (n2 d2:Int) (len2 cap2:Nat) (ad2:Option Addr) (a2:Int) (w':World):Prop :=
 w'.cell? ⟨pb,2,none⟩=some v∧w'.cell? ⟨b,o+1,none⟩=some (.int .i64 k2)∧w'.cell? ⟨b,o+2,none⟩=some (.string nm2)∧w'.cell? ⟨b,o+3,none⟩=some (.int .i64 n2)∧w'.cell? ⟨b,o+4,none⟩=some (.int .i64 d2)∧w'.cell? ⟨b,o+5,none⟩=some (.slice ad2 len2 cap2)∧w'.cell? ⟨b,o+6,none⟩=some (.int .i64 a2)
section
variable {pb b o:Nat} {v:Value} {k2:Int} {nm2:ByteArray} {n2 d2:Int} {len2 cap2:Nat} {ad2:Option Addr} {a2:Int} {w':World}
theorem SF.drew (h:SF pb b o v k2 nm2 n2 d2 len2 cap2 ad2 a2 w'):SF pb b o v k2 nm2 n2 d2 len2 cap2 ad2 a2 w'.drew:=h
theorem SF.set (h:SF pb b o v k2 nm2 n2 d2 len2 cap2 ad2 a2 w') {g j:Nat} (h1:¬pb=g) (h2:¬b=g) (u:Value):SF pb b o v k2 nm2 n2 d2 len2 cap2 ad2 a2 (w'.setCell ⟨g,j,none⟩ u):=by
 have hc:∀o,(w'.setCell ⟨g,j,none⟩ u).cell? ⟨b,o,none⟩=w'.cell? ⟨b,o,none⟩:=fun o=>ZF _ _ _ _ (fun e=>h2 e.symm)
 have hd:∀o,(w'.setCell ⟨g,j,none⟩ u).cell? ⟨pb,o,none⟩=w'.cell? ⟨pb,o,none⟩:=fun o=>ZF _ _ _ _ (fun e=>h1 e.symm)
 obtain⟨x0,x1,x2,x3,x4,x5,x6⟩:=h
 exact⟨(hd _).trans x0,(hc _).trans x1,(hc _).trans x2,(hc _).trans x3,(hc _).trans x4,(hc _).trans x5,(hc _).trans x6⟩
end
theorem Qc {W0 w:World} (hl:Below W0.heap.size W0 w) (p:PG) (an ai af ao:Option Addr) (cn ci cf co:Nat) (hp:AP W0 p an ai af ao cn ci cf co) (i:Nat) (hi:i<p.flows.length) (hi2:i<100) :
  Calls Tryz.prog 76 #[pv p an ai af ao cn ci cf co,.int .i64 (i:Int)] w fun x w'=>(∃ad2 cap2,x=.returned (spv p.flows[i].e ad2 cap2 (dg i))∧AE W0 p.flows[i].e ad2 cap2)∧Below w.heap.size w w':=by
 obtain⟨nodes,ins,flows,outs⟩:=p
 obtain⟨b,o,rfl,hb,hfl⟩:=hp.flows.at hi
 simp only at hi hfl ⊢
 obtain⟨f,hf⟩:∃f,flows[i]=f:=⟨_,rfl⟩
 rw[hf] at hfl ⊢
 obtain⟨nm,⟨k2,nm2,n2,d2,args2,a2⟩,fa⟩:=f
 obtain⟨ad2,cap2,y0,y1,y2,y3,y4,y5,y6,y7,hae,hfn⟩:=hfl.cells
 have HAE:=hid hae
 have hi0:(0:Int)≤(i:Int):=oq
 have hi1:(i:Int)<(flows.length:Int):=oq
 have HI2:=hid hi2
 unfold pv spv
 simp only
 clear hp hfl hae hf hi2 hfn y0 y7
 have hsl:=hl.size
 have HL:=hid hl
 clear hl
 go_enter Tryz.func76,Tryz.ntmps76
 go_wp2
 obtain⟨W2,hW2⟩:∃W2,(w.alloc (.cells #[.slice an nodes.length cn,.slice ai ins.length ci,.slice (some ⟨b,o,none⟩) flows.length cf,.slice ao outs.length co] 27)).alloc (.cells #[.int .i64 0,.string ⟨#[]⟩,.int .i64 0,.int .i64 0,.slice none 0 0,.int .i64 0,.string ⟨#[]⟩] 157)=W2:=⟨_,rfl⟩
 rw[hW2]
 have hB:Below w.heap.size w W2:=by rw[←hW2];exact bq
 have hb0:W2.heap[w.heap.size]?=some (.cells #[.slice an nodes.length cn,.slice ai ins.length ci,.slice (some ⟨b,o,none⟩) flows.length cf,.slice ao outs.length co] 27 (0,0)):=by rw[←hW2];exact(Za _ _ _ (by simp)).trans (Yt w _)
 have hb1:W2.heap[w.heap.size+1]?=some (.cells #[.int .i64 0,.string ⟨#[]⟩,.int .i64 0,.int .i64 0,.slice none 0 0,.int .i64 0,.string ⟨#[]⟩] 157 (0,0)):=by rw[←hW2];simpa using Yt (w.alloc _) _
 obtain⟨⟨_,_,s2,_⟩,_⟩:=Yu hb0
 obtain⟨⟨z0,z1,z2,z3,z4,z5,z6⟩,zf⟩:=YP hb1
 have hcb:=fun o=>(hB.cell (p:=⟨b,o,none⟩) (Zd hb hsl)).trans (HL.out.cell (p:=⟨b,o,none⟩) hb)
 have HB:=hid hB
 have KA:=hid (show SF w.heap.size b (o+i*8) (.slice (some ⟨b,o,none⟩) flows.length cf) k2 nm2 n2 d2 args2.len cap2 ad2 a2 W2 from ⟨s2,(hcb _).trans y1,(hcb _).trans y2,(hcb _).trans y3,(hcb _).trans y4,(hcb _).trans y5,(hcb _).trans y6⟩)
 have hne:¬w.heap.size=w.heap.size+1:=oq
 have hne2:¬b=w.heap.size+1:=oq
 clear hW2 hB hb0 hb1 s2 y1 y2 y3 y4 y5 y6 hcb
 go_region_held3 (fun w'=>w'.cell? ⟨w.heap.size,2,none⟩=some (.slice (some ⟨b,o,none⟩) flows.length cf)∧w'.cell? ⟨b,o+i*8+1,none⟩=some (.int .i64 k2)∧w'.cell? ⟨b,o+i*8+2,none⟩=some (.string nm2)∧w'.cell? ⟨b,o+i*8+3,none⟩=some (.int .i64 n2)∧w'.cell? ⟨b,o+i*8+4,none⟩=some (.int .i64 d2)∧w'.cell? ⟨b,o+i*8+5,none⟩=some (.slice ad2 args2.len cap2)∧w'.cell? ⟨b,o+i*8+6,none⟩=some (.int .i64 a2)) ((show SF w.heap.size b (o+i*8) (.slice (some ⟨b,o,none⟩) flows.length cf) k2 nm2 n2 d2 args2.len cap2 ad2 a2 _;repeat (first|with_reducible exact KA.out|with_reducible refine SF.drew ?_|(with_reducible refine SF.set ?_ hne hne2 _)))) (first|(go_at_call 118;refine(yc HI2.out _).mono ?_;rintro x w1 ⟨rfl,rfl⟩))
 all_goals
  go_wp2
  refine Zl (v:=spv ⟨k2,nm2,n2,d2,args2,a2⟩ ad2 cap2 (dg i)) ?_ rfl ?_
  ·simp only[results,Tryz.results76,spv]
   go_simp
  exact⟨⟨ad2,cap2,rfl,HAE.out⟩,bq⟩
theorem qO {w:World} (e:PE) (ad:Option Addr) (cap:Nat) (h:YF e=true):Calls Tryz.prog 77 #[ev e ad cap] w fun x w'=>x=.returned (.bool true)∧Below w.heap.size w w':=by
 obtain⟨h1,h2,h3⟩:=U9 h
 obtain⟨k,nm,n,d,args,a⟩:=e
 unfold ev
 simp only at h1 h2 h3 ⊢
 clear h
 by_cases hk:k=1
 ·subst hk
  have h1:=h1 rfl
  clear h2 h3
  rw[h1]
  go_enter Tryz.func77,Tryz.ntmps77
  go_wp2
  go_ret
  exact⟨rfl,bq⟩
 have hk1:(k == 1)=false:=ZW.2 hk
 by_cases hk2:k=2
 ·subst hk2
  have h2:decide (0<args.len)=true:=ZY (by have:=h2 rfl;omega)
  clear h1 h3
  go_enter Tryz.func77,Tryz.ntmps77
  go_wp2
  go_ret
  exact⟨rfl,bq⟩
 have hk3:(k == 2)=false:=ZW.2 hk2
 have h3:=h3 hk hk2
 clear h1 h2 hk hk2
 rw[h3]
 go_enter Tryz.func77,Tryz.ntmps77
 go_wp2
 go_ret
 exact⟨rfl,bq⟩
theorem UP {w:World} (e:PE) (ad:Option Addr) (cap:Nat) (way:ByteArray):Calls Tryz.prog 75 #[spv e ad cap way] w fun x w'=>x=.returned (.func (.func 116) #[] #[.pointer (some ⟨w.heap.size,0,none⟩)])∧w'=w.alloc (.cells #[.int .i64 e.k,.string e.nm,.int .i64 e.n,.int .i64 e.d,.slice ad e.args.len cap,.int .i64 e.a,.string way] 157):=by
 unfold spv
 go_enter Tryz.func75,Tryz.ntmps75
 go_wp2
 go_ret
 exact⟨rfl,rfl⟩
theorem JS {w:World} (nm:ByteArray) (per ph a:Int):Calls Tryz.prog 78 #[.agg #[.string nm,.int .i64 per,.int .i64 ph,.int .i64 a]] w fun x w'=>x=.returned (.agg #[.int .i64 per,.int .i64 ph])∧Below w.heap.size w w':=by
 go_enter Tryz.func78,Tryz.ntmps78
 go_wp2
 refine Zl (v:=.agg #[.int .i64 per,.int .i64 ph]) ?_ rfl ?_
 ·simp only[results,Tryz.results78]
  go_simp
 exact⟨rfl,bq⟩
theorem Uc {w:World} (e:PE) (ad:Option Addr) (cap:Nat):Calls Tryz.prog 122 #[ev e ad cap] w fun x w'=>x=.returned (.agg #[.int .i64 e.k,.int .i64 e.n,.int .i64 e.d])∧Below w.heap.size w w':=by
 unfold ev
 go_enter Tryz.func122,Tryz.ntmps122
 go_wp2
 refine Zl (v:=.agg #[.int .i64 e.k,.int .i64 e.n,.int .i64 e.d]) ?_ rfl ?_
 ·simp only[results,Tryz.results122]
  go_simp
 exact⟨rfl,bq⟩
attribute [local go_sem] ZS
def Qf:PL→ByteArray→Nat→List (PE × ByteArray)
 | .nil,_,_=>[]
 | .cons k nm n d args a tl,w,i=>(⟨k,nm,n,d,args,a⟩,w++⟨#[47]⟩++dg i)::(Qf args (w++⟨#[47]⟩++dg i) 0++Qf tl w (i+1))
def Xg (e:PE) (w:ByteArray):List (PE × ByteArray):=(e,w)::Qf e.args w 0
theorem uj:∀(l:PL) (w:ByteArray) (i:Nat),(Qf l w i).length=l.sz:=by
 intro l
 induction l with
 | nil=>intro w i;rfl
 | cons k nm n d args a tl ih1 ih2=>intro w i;simp only[Qf,Zp,Zw,ih1,ih2,PL.sz];omega
structure X9 (W0:World) (e:PE) (ad:Option Addr) (cap:Nat) (way:ByteArray):Prop where
 mem:AE W0 e ad cap
 good:YF e=true
 short:way.size+3*e.args.sz≤500
 few:e.args.sz<100
structure VS (W0:World) where
 s:PE × ByteArray
 ad:Option Addr
 cap:Nat
 ok:X9 W0 s.1 ad cap s.2
def VS.vs {W0:World} (x:VS W0):Array Value:=#[.agg #[.int .i64 x.s.1.k,.string x.s.1.nm,.int .i64 x.s.1.n,.int .i64 x.s.1.d,.slice x.ad x.s.1.args.len x.cap,.int .i64 x.s.1.a,.string x.s.2]]
def zp (F:Fence) (W0:World):Prop:=∀(n:Nat) (W:World) (e c:PE) (ad:Option Addr) (cap:Nat) (way:ByteArray) (i:Nat),Below W0.heap.size W0 W→X9 W0 e ad cap way→e.args.at i=some c →
 CallsIn F n Tryz.prog 81 #[spv e ad cap way,.int .i64 (i:Int)] W fun x w'=>(∃ad2 cap2,x=.returned (spv c ad2 cap2 (way++⟨#[47]⟩++dg i))∧X9 W0 c ad2 cap2 (way++⟨#[47]⟩++dg i))∧Below W.heap.size W w'
theorem UJ:∀(l:PL) (i:Nat) (e:PE),l.at i=some e→i<l.len∧e.args.sz+1≤l.sz
 | .cons k nm n d args a tl,0,e,h=>by
  injection h with h;subst h
  simp only[PL.len,PL.sz]
  omega
 | .cons _ _ _ _ args _ tl,i+1,e,h=>by
  have:=UJ tl i e h
  simp only[PL.len,PL.sz]
  omega
theorem Q5 {W0 w:World} (hl:Below W0.heap.size W0 w) (e c:PE) (ad:Option Addr) (cap:Nat) (way:ByteArray) (i:Nat) (h:X9 W0 e ad cap way) (hc:e.args.at i=some c) :
  Calls Tryz.prog 81 #[spv e ad cap way,.int .i64 (i:Int)] w fun x w'=>(∃ad2 cap2,x=.returned (spv c ad2 cap2 (way++⟨#[47]⟩++dg i))∧X9 W0 c ad2 cap2 (way++⟨#[47]⟩++dg i))∧Below w.heap.size w w':=by
 obtain⟨h1,h2⟩:=UJ _ _ _ hc
 have h3:=X5 e.args
 have h4:=h.few
 have h5:=h.short
 have h6:=Ju (i:=i) oq
 refine(eH hl e c ad cap way i h.mem hc h1 oq oq).mono ?_
 rintro x w' ⟨⟨ad2,cap2,hx,hae⟩,hb⟩
 refine⟨⟨ad2,cap2,hx,⟨hae,JO h.good hc,?_,oq⟩⟩,hb⟩
 have h7:(way++(⟨#[47]⟩:ByteArray)++dg i).size=way.size+1+(dg i).size:=by
  rw[ByteArray.size_append,ByteArray.size_append];rfl
 omega
theorem Kp (W0:World):zp Fence.wide W0:=fun n W e c ad cap way i hl h hc=>Zs.2 (Q5 hl e c ad cap way i h hc)
theorem zv {β:Type} {B:Nat} {J:β→World→Prop} (h:AbidesFrom B J) {s:β} {W W':World} (hs:J s W) (hb:Below W.heap.size W W'):J s W' :=
 h s W _ none hs ⟨hb.os,hb.tape,hb.output,hb.size,fun k hk _=>hb.block k hk⟩ (fun r e=>by cases e)
def kept (o:Obj):Bool:=match o with
 | .cells _ t _=>t != 53
 | _=>false
theorem KU {o:Obj} (h:kept o=true):o.isCells=true:=by
 cases o<;>first|rfl|exact Bool.noConfusion h
structure KF (n₀ Bk:Nat) (W W':World):Prop where
 below:Below n₀ W W'
 same:∀(k:Nat) (o:Obj),Bk≤k→W.heap[k]?=some o→kept o=true→W'.heap[k]?=some o
theorem KF.refl (n₀ Bk:Nat) (W:World):KF n₀ Bk W W:=⟨Zg _ _,fun _ _ _ h _=>h⟩
theorem KF.trans {n₀ Bk:Nat} {A B C:World} (h:KF n₀ Bk A B) (k:KF n₀ Bk B C):KF n₀ Bk A C:=⟨h.below.trans k.below,fun i o hb hi ho=>k.same i o hb (h.same i o hb hi ho) ho⟩
theorem KF.of_below {n₀ Bk:Nat} {A W W':World} (h:KF n₀ Bk A W) (hb:Below W.heap.size W W') (hn:n₀≤W.heap.size):KF n₀ Bk A W' :=
 h.trans ⟨hb.mono hn,fun k o _ hk _=>(hb.block k (Zb hk)).trans hk⟩
theorem KF.alloc {n₀ Bk:Nat} {A W:World} (h:KF n₀ Bk A W) (hn:n₀≤W.heap.size) (o:Obj):KF n₀ Bk A (W.alloc o):=h.of_below ((Zg _ _).alloc (Zc _) _) hn
theorem KC.kf {n₀:Nat} {A B:World} (h:KC n₀ A B) (Bk:Nat):KF n₀ Bk A B:=⟨h.below,fun k o _ hk ho=>h.same k o hk (KU ho)⟩
theorem KF.putObj {n₀ Bk:Nat} (W:World) (l:Nat) (o o':Obj) (hl:n₀≤l) (h:W.heap[l]?=some o) (hc:o.isCells=false):KF n₀ Bk W (W.putObj l o'):=(KC.putObj W l o o' hl h hc).kf Bk
def jh {W0:World} (n₀ Bk:Nat) (J Jx:List (VS W0)→World→Prop) (pre:List (VS W0)) (e:PE) (way:ByteArray) (W:World) (x:Ending) (W':World):Prop :=
 (x=.returned (.bool true)∧(∃ys:List (VS W0),ys.map (·.s)=Xg e way∧J (pre++ys) W')∧KF n₀ Bk W W') ∨
  (x=.returned (.bool false)∧∃q:List (VS W0),q.map (·.s) <+: Xg e way∧Jx (pre++q) W')
def Zcq {W0:World} (n₀ Bk:Nat) (J:List (VS W0)→World→Prop) (pre:List (VS W0)) (e:PE) (way:ByteArray) (W:World) (v:Value) (wr:World):Prop :=
 ∃(i:Nat) (rest:PL) (ys:List (VS W0)),v=.int .i64 (i:Int)∧i+rest.len=e.args.len∧(∀j,rest.at j=e.args.at (i+j))∧rest.sz≤e.args.sz∧ys.map (·.s)++Qf rest way i=Xg e way∧J (pre++ys) wr∧KF n₀ Bk W wr
theorem eK {k n d a:Int} {nm:ByteArray} {args tl l:PL} {i:Nat} (h:∀j,(PL.cons k nm n d args a tl).at j=l.at (i+j)):∀j,tl.at j=l.at (i+1+j):=fun j=>by
 have:=h (j+1)
 rw[show i+1+j=i+(j+1) by omega,←this]
 rfl
theorem xo {W0:World} (F:Fence) (hd:F.depth=none) (hF:F.fn 117) (hA:F.fn 81) (hro:F.round=none) (hAI:zp F W0) (l B Bk N:Nat) (J Jx:List (VS W0)→World→Prop) (hJ:AbidesFrom B J)
  (hY:∀m pre x W,J pre W→pre.length<N→YieldAt F m Tryz.prog l x.vs W fun e W'=>(e=.returned (.bool true)∧J (pre++[x]) W'∧KF W0.heap.size Bk W W')∨(e=.returned (.bool false)∧Jx (pre++[x]) W')) (e:PE)
  (ih:∀e':PE,e'.args.sz<e.args.sz→∀(n:Nat) (ad:Option Addr) (cap:Nat) (way:ByteArray) (pre:List (VS W0)) (W:World),X9 W0 e' ad cap way→Below W0.heap.size W0 W→Bk≤W.heap.size→J pre W→pre.length+e'.args.sz+1≤N →
   CallsIn F n Tryz.prog 117 #[spv e' ad cap way,.func (.yield l) #[] #[]] W (jh W0.heap.size Bk J Jx pre e' way W)) :
  ∀(n:Nat) (ad:Option Addr) (cap:Nat) (way:ByteArray) (pre:List (VS W0)) (W:World),X9 W0 e ad cap way→Below W0.heap.size W0 W→Bk≤W.heap.size→J pre W→pre.length+e.args.sz+1≤N →
   CallsIn F n Tryz.prog 117 #[spv e ad cap way,.func (.yield l) #[] #[]] W (jh W0.heap.size Bk J Jx pre e way W):=by
 intro n ad cap way pre W hae hb hBk hj hN
 obtain⟨k,nm,nn,d,args,a⟩:=e
 have hlen:=hae.mem.len
 simp only at hlen hN ih ⊢
 have hdd:∀k:Nat,(F.depth.isSome=true→1≤k):=fun k h=>by rw[hd] at h;cases h
 have hsz0:=hb.size
 obtain⟨X,hX1,hX2⟩:∃X:VS W0,X.vs=#[.agg #[.int .i64 k,.string nm,.int .i64 nn,.int .i64 d,.slice ad args.len cap,.int .i64 a,.string way]]∧X.s=(⟨k,nm,nn,d,args,a⟩,way):=⟨⟨(⟨k,nm,nn,d,args,a⟩,way),ad,cap,hae⟩,rfl,rfl⟩
 obtain⟨fn,tmps,assign,body,hy,hR⟩:=hY (n-1) pre X (W.alloc (Obj.cells #[.int .i64 k,.string nm,.int .i64 nn,.int .i64 d,.slice ad args.len cap,.int .i64 a,.string way] 157)) (Q4 hJ hj _) oq
 rw[hX1] at hy
 have HX2:=hid hX2
 have HA:=hid hae
 have HB:=hid hb
 have HIH:=hid ih
 have HR:=hid hR
 have HAI:=hid hAI
 clear hX1 hX2 hae hb ih hR hj hAI
 unfold spv at *
 simp only at *
 refine callsIn_of_wp Tryz.func117 rfl hF ?_ hro
 simp only[Tryz.ntmps117,ZH,Zp,Zv,Nat.reduceAdd,Nat.reduceSub,ZE,ZD,ZK,ZI,ZL,ZB]
 gi_wp2
 refine HR.out.mono ?_
 rintro e W1 (⟨rfl,hJ1,hk1⟩|⟨rfl,hJx⟩)
 ·have hbox:=hk1.same W.heap.size _ hBk (Yt W _) rfl
  obtain⟨⟨x0,x1,x2,x3,x4,x5,x6⟩,xf⟩:=YP hbox
  have HJ1:=hid hJ1
  have HK1:=hid ((KF.refl W0.heap.size Bk W).alloc hsz0 _ |>.trans hk1)
  have HBX:=hid hbox
  clear hJ1 hk1 hbox
  gi_wp2
  gi_loopw [14] (fun v wr=>Hid (Zcq W0.heap.size Bk J pre ⟨k,nm,nn,d,args,a⟩ way W1 v wr)) (fun i _=>args.len-(intOf i).toNat)
  case atStart=>exact⟨0,args,[X],rfl,by simp,by simp,Zc _,by simp only[List.map_cons,List.map_nil,List.singleton_append,HX2.out,Xg],HJ1.out,KF.refl _ _ _⟩
  obtain⟨i,rest,ys,rfl,hil,hat,hsub,hys,hj2,hk2⟩:=hrel.out
  clear hrel
  have HK2:=hid hk2
  have HJ2:=hid hj2
  simp only at hil hat hsub
  have hbw:Below W0.heap.size W0 wr:=HB.out.trans (HK1.out.below.trans hk2.below)
  have hbox:=hk2.same W.heap.size _ hBk HBX.out rfl
  have hBr:Bk≤wr.heap.size:=Zm hBk (HK1.out.below.trans hk2.below).size
  have HBW:=hid hbw
  have HAT:=hid hat
  have hszw:=hbw.size
  clear hk2 hj2 hbw hat
  cases rest with
  | nil =>
   have hil':(i:Int)=(args.len:Int):=by simp only[PL.len] at hil;omega
   simp only[Qf,List.append_nil] at hys
   have HYS:=hid hys
   clear hys
   gi_wp2
   go_ret
   exact .inl ⟨rfl,⟨ys,HYS.out,HJ2.out⟩,HK1.out.trans HK2.out⟩
  | cons k1 nm1 n1 d1 args1 a1 tl =>
   have hil':(i:Int)<(args.len:Int):=by simp only[PL.len] at hil;omega
   obtain⟨⟨x0,x1,x2,x3,x4,x5,x6⟩,xf⟩:=YP hbox
   have h0:=HAT.out 0
   have hlys:=Z1 List.length hys
   simp only[Zw,Zo,uj,Zp,PL.sz,Xg] at hlys hsub
   have HARG:=hid (HAI.out (n-1) wr ⟨k,nm,nn,d,args,a⟩ ⟨k1,nm1,n1,d1,args1,a1⟩ ad cap way i HBW.out HA.out h0.symm)
   have HC:=hid (fun w1 (hb1:Below wr.heap.size wr w1) ad1 cap1 (hsp:X9 W0 ⟨k1,nm1,n1,d1,args1,a1⟩ ad1 cap1 (way++⟨#[47]⟩++dg i))=>HIH.out ⟨k1,nm1,n1,d1,args1,a1⟩ (by show args1.sz<args.sz;omega) (n-1) ad1 cap1 (way++⟨#[47]⟩++dg i) (pre++ys) w1 hsp (HBW.out.trans (hb1.mono hszw)) (Zm hBr hb1.size) (zv hJ HJ2.out hb1) (by simp only[Zw];omega))
   have HYS:=hid hys
   clear h0 hys hlys hbox
   gi_wp2_with ((try refine⟨hdd _,?_⟩);first|(gi_at_call 81;refine HARG.out.mono ?_;rintro x w1 ⟨⟨ad1,cap1,rfl,hsp⟩,hb1⟩;unfold spv;simp only)|(gi_at_call 117;refine(HC.out _ hb1 _ _ hsp).mono ?_;rintro x w2 (⟨rfl,⟨zs,hzs,hj3⟩,hk3⟩|⟨rfl,q,hq,hjx⟩)))
   ·go_roundw
    case rel=>exact⟨i+1,tl,ys++zs,by go_num,by simp only[PL.len] at hil;show i+1+tl.len=args.len;omega,eK HAT.out,by show tl.sz≤args.sz;omega,by rw[ZT,hzs,←HYS.out,Qf,Xg];simp,by rw[←List.append_assoc];exact hj3,(HK2.out.of_below hb1 hszw).trans hk3⟩
    simp[intOf];omega
   go_ret
   refine .inr ⟨rfl,ys++q,?_,by rw[←List.append_assoc];exact hjx⟩
   obtain⟨r,hr⟩:=hq
   refine⟨r++Qf tl way (i+1),?_⟩
   rw[ZT,←HYS.out,Qf,←ZB]
   unfold Xg at hr
   rw[←hr]
   simp
 gi_wp2
 go_ret
 exact .inr ⟨rfl,[X],⟨Qf args way 0,by simp only[List.map_cons,List.map_nil,List.singleton_append,HX2.out,Xg]⟩,hJx⟩
theorem qT {W0:World} (F:Fence) (hd:F.depth=none) (hF:F.fn 117) (hA:F.fn 81) (hro:F.round=none) (hAI:zp F W0) (l B Bk N:Nat) (J Jx:List (VS W0)→World→Prop) (hJ:AbidesFrom B J)
  (hY:∀m pre x W,J pre W→pre.length<N→YieldAt F m Tryz.prog l x.vs W fun e W'=>(e=.returned (.bool true)∧J (pre++[x]) W'∧KF W0.heap.size Bk W W')∨(e=.returned (.bool false)∧Jx (pre++[x]) W')) :
  ∀(e:PE) (n:Nat) (ad:Option Addr) (cap:Nat) (way:ByteArray) (pre:List (VS W0)) (W:World),X9 W0 e ad cap way→Below W0.heap.size W0 W→Bk≤W.heap.size→J pre W→pre.length+e.args.sz+1≤N →
   CallsIn F n Tryz.prog 117 #[spv e ad cap way,.func (.yield l) #[] #[]] W (jh W0.heap.size Bk J Jx pre e way W):=by
 intro e
 suffices h:∀(M:Nat) (e:PE),e.args.sz<M→∀(n:Nat) (ad:Option Addr) (cap:Nat) (way:ByteArray) (pre:List (VS W0)) (W:World),X9 W0 e ad cap way→Below W0.heap.size W0 W→Bk≤W.heap.size→J pre W→pre.length+e.args.sz+1≤N →
   CallsIn F n Tryz.prog 117 #[spv e ad cap way,.func (.yield l) #[] #[]] W (jh W0.heap.size Bk J Jx pre e way W) from h _ e (ZU _)
 intro M
 induction M with
 | zero=>intro e h;omega
 | succ M ih=>intro e h;exact xo F hd hF hA hro hAI l B Bk N J Jx hJ hY e (fun e' h'=>ih e' oq)
theorem zS {W0:World} (F:Fence) (hd:F.depth=none) (hG:F.fn 116) (hF:F.fn 117) (hA:F.fn 81) (hro:F.round=none) (hAI:zp F W0) (n l B Bk Bs:Nat) (e:PE) (ad:Option Addr) (cap:Nat) (way:ByteArray)
  (hs:X9 W0 e ad cap way) (J Jx:List (VS W0)→World→Prop) (hJ:AbidesFrom B J)
  (hY:∀m pre x W,J pre W→pre.length<e.args.sz+1→YieldAt F m Tryz.prog l x.vs W fun e W'=>(e=.returned (.bool true)∧J (pre++[x]) W'∧KF W0.heap.size Bk W W')∨(e=.returned (.bool false)∧Jx (pre++[x]) W'))
  (W:World) (hB:Below W0.heap.size W0 W) (hBk:Bk≤W.heap.size) (hbx:W.heap[Bs]?=some (.cells #[.int .i64 e.k,.string e.nm,.int .i64 e.n,.int .i64 e.d,.slice ad e.args.len cap,.int .i64 e.a,.string way] 157 (0,0))) (h0:J [] W) :
  CallsIn F n Tryz.prog 116 #[.func (.yield l) #[] #[],.pointer (some ⟨Bs,0,none⟩)] W fun x W'=>(∃v,x=.returned v) ∧
   ((∃xs:List (VS W0),xs.map (·.s)=Xg e way∧J xs W')∨(∃pre:List (VS W0),pre.map (·.s) <+: Xg e way∧Jx pre W')):=by
 have hdd:∀k:Nat,(F.depth.isSome=true→1≤k):=fun k h=>by rw[hd] at h;cases h
 have HC:=hid (qT F hd hF hA hro hAI l B Bk (e.args.sz+1) J Jx hJ hY e (n-1) ad cap way [] W hs hB hBk h0 (by simp))
 obtain⟨⟨x0,x1,x2,x3,x4,x5,x6⟩,xf⟩:=YP hbx
 clear hY hB h0 hAI hs hbx
 unfold spv at HC
 refine callsIn_of_wp Tryz.func116 rfl hG ?_ hro
 simp only[Tryz.ntmps116,ZH,Zp,Zv,Nat.reduceAdd,Nat.reduceSub,ZE,ZD,ZK,ZI,ZL,ZB]
 gi_wp2_with ((try refine⟨hdd _,?_⟩);gi_at_call 117;refine HC.out.mono ?_;rintro x w2 (⟨rfl,⟨zs,hzs,hj3⟩,hk3⟩|⟨rfl,q,hq,hjx⟩))
 ·go_end0
  exact⟨⟨_,rfl⟩,.inl ⟨zs,hzs,by simpa using hj3⟩⟩
 go_end0
 exact⟨⟨_,rfl⟩,.inr ⟨q,hq,by simpa using hjx⟩⟩
theorem Vl {W0:World} (F:Fence) (hd:F.depth=none) (hG:F.fn 116) (hF:F.fn 117) (hA:F.fn 81) (hro:F.round=none) (hAI:zp F W0) (n Bs:Nat) (e:PE) (ad:Option Addr) (cap:Nat) (way:ByteArray)
  (hs:X9 W0 e ad cap way) (w:World) (Bk:Nat) (hBk:Bk≤w.heap.size) (hB:Below W0.heap.size W0 w) (hbx:w.heap[Bs]?=some (.cells #[.int .i64 e.k,.string e.nm,.int .i64 e.n,.int .i64 e.d,.slice ad e.args.len cap,.int .i64 e.a,.string way] 157 (0,0))) :
  SeqStopsK F n Tryz.prog 116 #[.pointer (some ⟨Bs,0,none⟩)] (fun x:VS W0=>x.vs) (KF W0.heap.size Bk) (fun xs=>xs.map (·.s)=Xg e way) (fun pre=>pre.map (·.s) <+: Xg e way) (e.args.sz+1) w:=fun l J Jx W hW hJ hJx hY h0 =>
 zS F hd hG hF hA hro hAI n l W.heap.size Bk Bs e ad cap way hs J Jx hJ (fun m pre x W hj hl=>YieldAt.deep hd m (hY pre x W hj hl)) W (hB.trans (hW.mono hB.size)) (Zm hBk hW.size) ((hW.block Bs (Zb hbx)).trans hbx) h0
def Ew (w:World) (b:Nat) (l:List (Int × Int)):Prop:=∀i (h:i<l.length),w.cell? ⟨b,i*2,none⟩=some (.int .i64 l[i].1)∧w.cell? ⟨b,i*2+1,none⟩=some (.int .i64 l[i].2)
def Zb9 (w W:World) (l1 l2:List (Int × Int)) (v:Value) (wr:World):Prop :=
 ∃i:Nat,v=.int .i64 (i:Int)∧i≤l1.length∧l1.take i=l2.take i∧Below w.heap.size w wr
theorem UY {w:World} (l1 l2:List (Int × Int)) (b1 b2:Nat) (hb1:b1<w.heap.size) (hb2:b2<w.heap.size) (h1:Ew w b1 l1) (h2:Ew w b2 l2) (hl:l1.length≤1000) (hl2:l2.length≤1000) :
  Calls Tryz.prog 74 #[.slice (some ⟨b1,0,none⟩) l1.length l1.length,.slice (some ⟨b2,0,none⟩) l2.length l2.length] w fun x w'=>x=.returned (.bool (decide (l1=l2)))∧Below w.heap.size w w':=by
 have H1:=hid h1
 have H2:=hid h2
 clear h1 h2
 go_enter Tryz.func74,Tryz.ntmps74
 by_cases hne:l1.length=l2.length
 ·have hq:((l1.length:Int) != (l2.length:Int))=false:=by simp[hne]
  go_wp2
  go_loopw [13] (fun v wr=>Hid (Zb9 w w l1 l2 v wr)) (fun i _=>l1.length-(intOf i).toNat)
  case atStart=>exact⟨0,rfl,Zk _,rfl,Zg _ _⟩
  obtain⟨i,rfl,hi,htk,hB⟩:=hrel.out
  clear hrel
  by_cases hlt:i<l1.length
  ·have hlt':(i:Int)<(l1.length:Int):=oq
   have hlt2:(i:Int)<(l2.length:Int):=oq
   have hi2:i<l2.length:=oq
   obtain⟨c1,d1⟩:=H1.out i hlt
   obtain⟨c2,d2⟩:=H2.out i hi2
   have g1:wr.cell? ⟨b1,i*2,none⟩=_:=(hB.cell (p:=⟨b1,i*2,none⟩) hb1).trans c1
   have g2:wr.cell? ⟨b1,i*2+1,none⟩=_:=(hB.cell (p:=⟨b1,i*2+1,none⟩) hb1).trans d1
   have g3:wr.cell? ⟨b2,i*2,none⟩=_:=(hB.cell (p:=⟨b2,i*2,none⟩) hb2).trans c2
   have g4:wr.cell? ⟨b2,i*2+1,none⟩=_:=(hB.cell (p:=⟨b2,i*2+1,none⟩) hb2).trans d2
   obtain⟨⟨p1,q1⟩,hp1⟩:∃c,l1[i]=c:=⟨_,rfl⟩
   obtain⟨⟨p2,q2⟩,hp2⟩:∃c,l2[i]=c:=⟨_,rfl⟩
   rw[hp1] at g1 g2
   rw[hp2] at g3 g4
   simp only at g1 g2 g3 g4
   have HP1:=hid hp1
   have HP2:=hid hp2
   have HTK:=hid htk
   have HB:=hid hB
   clear c1 d1 c2 d2 hp1 hp2 htk hB
   by_cases hcc:p1=p2∧q1=q2
   ·obtain⟨e1,e2⟩:=hcc
    subst e1 e2
    have hq2:=fun w=>Jh p1 q1 p1 q1 w
    simp only[and_self,decide_true] at hq2
    have HT2:=hid (show l1.take (i+1)=l2.take (i+1) by
     rw[Zu hlt,Zu hi2,HTK.out,HP1.out,HP2.out])
    go_wp2
    go_quiet (fail)
    go_wp2
    exact⟨⟨i+1,by go_num,oq,HT2.out,bq⟩,by simp[intOf];omega⟩
   have HD:=hid (show decide (l1=l2)=false from ZX (fun e=>hcc (by
    subst e
    have:=HP1.out.symm.trans HP2.out
    injection this with h1 h2
    exact⟨h1,h2⟩)))
   by_cases he:p1=p2
   ·subst he
    have he2:¬q1=q2:=fun e=>hcc ⟨rfl,e⟩
    have hq2:=fun w=>Jh p1 q1 p1 q2 w
    simp only[true_and,ZX he2] at hq2
    clear hcc
    go_wp2
    go_quiet (fail)
    go_wp2
    go_ret
    exact⟨by rw[HD.out];rfl,bq⟩
   have hq2:=fun w=>Jh p1 q1 p2 q2 w
   simp only[he,false_and,decide_false] at hq2
   clear hcc
   go_wp2
   go_quiet (fail)
   go_wp2
   go_ret
   exact⟨by rw[HD.out];rfl,bq⟩
  have hi':i=l1.length:=oq
  have heq:l1=l2:=by
   subst hi'
   rw[ZR,hne,ZR] at htk
   exact htk
  have hlt':¬(i:Int)<(l1.length:Int):=oq
  have HE:=hid heq
  have HB:=hid hB
  clear heq hB htk
  go_wp2
  go_ret
  exact⟨by rw[ZY HE.out];rfl,HB.out⟩
 have hq:((l1.length:Int) != (l2.length:Int))=true:=by
  rw[bne_iff_ne];omega
 have hd:decide (l1=l2)=false:=ZX (fun e=>hne (by rw[e]))
 rw[hd]
 go_wp2
 go_ret
 exact⟨rfl,bq⟩
open Go.RowKit Go.Shelf
attribute [local go_sem] ZS
def mk (D:Nat):Deferred:={ target:=.collected D,args:=#[] }
def Mks (n₀:Nat) (Ds:List Nat) (w:World):Prop:=(∀D∈Ds,n₀≤D∧w.heap[D]?=some (.deferred (some [])))∧Ds.Nodup
theorem Mks.below {n₀:Nat} {Ds:List Nat} {w w':World} (h:Mks n₀ Ds w) (hb:Below w.heap.size w w'):Mks n₀ Ds w' :=
 ⟨fun D hD=>⟨(h.1 D hD).1,(hb.block D (Zb (h.1 D hD).2)).trans (h.1 D hD).2⟩,h.2⟩
theorem Mks.cons {n₀:Nat} {Ds:List Nat} {w w':World} (h:Mks n₀ Ds w) (hb:Below w.heap.size w w') {D:Nat} (hn:n₀≤w.heap.size) (hD:w.heap.size≤D) (hk:w'.heap[D]?=some (.deferred (some []))):Mks n₀ (D::Ds) w':=by
 have h':=h.below hb
 refine⟨fun D' hD'=>?_,List.nodup_cons.2 ⟨fun hm=>?_,h'.2⟩⟩
 ·rcases ZQ.1 hD' with rfl|hm
  ·exact⟨Zm hn hD,hk⟩
  exact h'.1 D' hm
 have:=Zb (h.1 D hm).2
 omega
theorem Mks.set {n₀:Nat} {Ds:List Nat} {w:World} (h:Mks n₀ Ds w) (p:Addr) (v:Value):Mks n₀ Ds (w.setCell p v) :=
 ⟨fun D hD=>⟨(h.1 D hD).1,(KeepsOthers.setCell _ _ _).same D _ (h.1 D hD).2 rfl⟩,h.2⟩
theorem XY {F:Fence} {n:Nat} {P:Program} {fn:Func} {tmps:Array Value} {R:Ending→World→Prop} {n₀:Nat}:∀(Ds:List Nat) (w:World),Mks n₀ Ds w →
  (∀w',KC n₀ w w'→LeavesInM F n P fn tmps R [] .returning w')→LeavesInM F n P fn tmps R (Ds.map mk) .returning w
 | [],w,_,h=>h w (KC.refl _ _)
 | D::Ds,w,hM,h=>by
  have hD:=hM.1 D (by simp)
  have hk:=KC.putObj (n₀:=n₀) w D _ (.deferred none) hD.1 hD.2 rfl
  refine⟨by simp,.inl ⟨_,_,rfl,run_takeDeferred hD.2,?_⟩⟩
  refine XY Ds _ ⟨fun D' hD'=>⟨(hM.1 D' (by simp[hD'])).1,?_⟩,(List.nodup_cons.1 hM.2).2⟩ (fun w' hw'=>h w' (hk.trans hw'))
  have hne:D'≠D:=fun e=>(List.nodup_cons.1 hM.2).1 (e▸hD')
  exact((grownBy_putObj' w D (.deferred none)).block D' (Zb (hM.1 D' (by simp[hD'])).2) (by intro e;injection e with e;exact hne e)).trans (hM.1 D' (by simp[hD'])).2
def ZaT (W:World) (b:Nat) (p:PG) (an ai af ao:Option Addr) (cn ci cf co:Nat):Prop:=W.heap[b]?=some (.cells #[.slice an p.nodes.length cn,.slice ai p.ins.length ci,.slice af p.flows.length cf,.slice ao p.outs.length co] 27 (0,0))
def Zb4 (p:PG) (l:List (Int × Int)) (x:Ending):Prop:=(∃a e,e≠0∧x=.returned (.tuple #[.int .i64 a,.int .i64 e]))∨(x=.returned (.tuple #[.int .i64 0,.int .i64 0])∧∃env,xy p env∧l=p.flows.map (fun f=>Jf env f.nm))
def CkA (w:World) (p:PG) (x:Ending) (w':World):Prop :=
 ((∃a e,e≠0∧(e != 0)=true∧x=.returned (.tuple #[.slice none 0 0,.int .i64 a,.int .i64 e]))∨∃l' b' env,x=.returned (.tuple #[.slice (some ⟨b',0,none⟩) l'.length l'.length,.int .i64 0,.int .i64 0])∧xy p env∧p.flows.map (fun f=>Jf env f.nm)=l'∧b'<w'.heap.size∧Ew w' b' l'∧l'.length≤1000)∧Below w.heap.size w w'
theorem xR {w:World} (p:PG) (an ai af ao:Option Addr) (cn ci cf co:Nat) (hp:AP w p an ai af ao cn ci cf co) (hz:NZ w p.nodes an) (hok:Jd p) :
  Calls Tryz.prog 73 #[pv p an ai af ao cn ci cf co] w (CkA w p):=by
 refine(j6 p an ai af ao cn ci cf co hp hz hok).mono ?_
 rintro x w' ⟨⟨a,e,he,rfl⟩|⟨v,env,rfl,hcf,b,rfl,hb,hr⟩,hB⟩
 ·exact⟨.inl ⟨a,e,he,bne_iff_ne.2 he,rfl⟩,hB⟩
 exact⟨.inr ⟨_,b,env,rfl,hcf,rfl,hb,hr,by rw[Zo];have:=hok.lens;omega⟩,hB⟩
theorem kt {w:World} (p:PG) (an ai af ao:Option Addr) (cn ci cf co:Nat) (hp:AP w p an ai af ao cn ci cf co) (hz:NZ w p.nodes an) (hok:Jd p) (l:List (Int × Int)) (bc:Nat) (hbc:bc<w.heap.size) (hl:l.length≤1000) (hc:Ew w bc l) :
  Calls Tryz.prog 45 #[pv p an ai af ao cn ci cf co,.slice (some ⟨bc,0,none⟩) l.length l.length] w fun x w'=>Zb4 p l x∧Below w.heap.size w w':=by
 have HCK:=hid (fun(w':World) (hb:Below w.heap.size w w')=>xR (w:=w') p an ai af ao cn ci cf co (hp.below hb) (hz.below hp.nodes hb) hok)
 have HFS:=hid (fun(w':World) (hb:Below w.heap.size w w')=>Qc hb p an ai af ao cn ci cf co hp)
 have hll:=hok.lens
 have hfl:=hok.flows
 have HC:=hid (show ∀w':World,Below w.heap.size w w'→Ew w' bc l from fun w' hb i h=>⟨(hb.cell (p:=⟨bc,i*2,none⟩) hbc).trans (hc i h).1,(hb.cell (p:=⟨bc,i*2+1,none⟩) hbc).trans (hc i h).2⟩)
 have HP:=hid hp
 obtain⟨nodes,ins,flows,outs⟩:=p
 have HFL:=hid hfl
 clear hp hz hok hc hfl
 unfold pv CkA at *
 simp only at HCK HFS hll HFL ⊢
 refine(Zs (n:=6)).1 ?_
 refine callsIn_of_wp_marks Tryz.func45 rfl trivial ?_ rfl
 simp only[Tryz.ntmps45,ZH,Zp,Zv,Nat.reduceAdd,Nat.reduceSub,ZE,ZD,ZK,ZI,ZL,ZB]
 gi_wp2_with (refine⟨trivial,?_⟩;first|(gi_at_call 73;refine(Zs.2 (HCK.out _ bq)).mono ?_;rintro x w1 ⟨hx,hb1⟩;obtain⟨hc1,hf1⟩:=Yx hb1;have b1:=hb1.size;simp only[Zt] at b1;have hpb1:ZaT w1 w.heap.size ⟨nodes,ins,flows,outs⟩ an ai af ao cn ci cf co:=(hb1.block _ (by simp;omega)).trans ((Za _ _ _ (by simp;omega)).trans ((Za _ _ _ (by simp)).trans (Yt w _)));have bA1:Boxed w1 (w.heap.size+1) 3 (.int .i64 0):=(hb1.block _ (by simp)).trans ((Za _ _ _ (by simp)).trans (by simpa using Yt (w.alloc _) _));have bE1:Boxed w1 (w.heap.size+1+1) 38 (.int .i64 0):=(hb1.block _ (by simp)).trans (by simpa using Yt ((w.alloc _).alloc _) _);rcases hx with ⟨a2,e2,he2,he3,rfl⟩|⟨l',b',env,rfl,hcf,hl',hb',hrow,hl''⟩)|(gi_at_call 74;refine(Zs.2 (UY l' l b' bc hb' oq hrow (HC.out _ bq) hl'' hl)).mono ?_;rintro x w2 ⟨rfl,hb2⟩;have hB2:Below w.heap.size w w2:=bq;have b2:=hb2.size;have hpb2:ZaT w2 w.heap.size ⟨nodes,ins,flows,outs⟩ an ai af ao cn ci cf co:=(hb2.block _ oq).trans hpb1;have bA2:Boxed w2 (w.heap.size+1) 3 (.int .i64 0):=(hb2.block _ oq).trans bA1;have bE2:Boxed w2 (w.heap.size+1+1) 38 (.int .i64 0):=(hb2.block _ oq).trans bE1;obtain⟨⟨x0,x1,x2,x3⟩,xf⟩:=Yu hpb2;have cA:=bA2.cell;have fA:=bA2.frozen;have cE:=bE2.cell;have fE:=bE2.frozen;clear hb1 hb2 hc1 hf1 hpb1 bA1 bE1;cases hd:decide (l'=l)))
 ·have bA3:=((bA1.set (.int .i64 a2)).other (show w.heap.size+1≠w.heap.size+1+1 by omega) (.int .i64 e2)).cell
  have bE3:=((bE1.other (show w.heap.size+1+1≠w.heap.size+1 by omega) (.int .i64 a2)).set (.int .i64 e2)).cell
  refine⟨.tuple #[.int .i64 a2,.int .i64 e2],?_,?_,?_⟩
  ·simp only[results,Tryz.results45];go_simp
  ·exact .inl ⟨a2,e2,he2,rfl⟩
  exact bq
 ·have bA3:=((bA2.set (.int .i64 0)).other (show w.heap.size+1≠w.heap.size+1+1 by omega) (.int .i64 12)).cell
  have bE3:=((bE2.other (show w.heap.size+1+1≠w.heap.size+1 by omega) (.int .i64 0)).set (.int .i64 12)).cell
  refine⟨.tuple #[.int .i64 0,.int .i64 12],?_,?_,?_⟩
  ·simp only[results,Tryz.results45];go_simp
  ·exact .inl ⟨0,12,by decide,rfl⟩
  exact(hB2.setCell (p:=⟨w.heap.size+1,0,none⟩) (by simp) _).setCell (p:=⟨w.heap.size+1+1,0,none⟩) (by simp;omega) _
 have hll':l'=l:=Yg hd
 subst hll'
 have HEND:=hid (show Zb4 ⟨nodes,ins,flows,outs⟩ l' (.returned (.tuple #[.int .i64 0,.int .i64 0])) from .inr ⟨rfl,env,hcf,hl'.symm⟩)
 have HB2:=hid hB2
 have HPB:=hid hpb2
 have HA2:=hid bA2
 have HE2:=hid bE2
 clear hcf hl' hB2 hpb2 bA2 bE2 x0 x1 x2 x3 xf cA fA cE fE hrow hd hl'' HCK
 have hsw2:w.heap.size+3≤w2.heap.size:=oq
 refine wpIn_loop (fun a' wr=>∃(u9 u29 u30 u31 u32 u33 u34 u43:Value) (i:Nat) (Ds:List Nat),(i≤flows.length∧Mks w.heap.size Ds wr∧Below w2.heap.size w2 wr)∧a'={ tmps:=#[.agg #[.slice an nodes.length cn,.slice ai ins.length ci,.slice af flows.length cf,.slice ao outs.length co],.slice (some ⟨bc,0,none⟩) l'.length l'.length,.pointer (some ⟨w.heap.size,0,none⟩),undef,.pointer (some ⟨w.heap.size+1,0,none⟩),.pointer (some ⟨w.heap.size+1+1,0,none⟩),.slice (some ⟨b',0,none⟩) l'.length l'.length,.int .i64 0,.int .i64 0,u9,undef,.tuple #[.slice (some ⟨b',0,none⟩) l'.length l'.length,.int .i64 0,.int .i64 0],.agg #[.slice an nodes.length cn,.slice ai ins.length ci,.slice af flows.length cf,.slice ao outs.length co],.tuple #[.slice (some ⟨b',0,none⟩) l'.length l'.length,.int .i64 0,.int .i64 0],.slice (some ⟨b',0,none⟩) l'.length l'.length,.int .i64 0,.int .i64 0,.int .i64 0,.bool false,undef,undef,.slice (some ⟨b',0,none⟩) l'.length l'.length,.slice (some ⟨bc,0,none⟩) l'.length l'.length,.bool true,.bool false,.pointer (some ⟨w.heap.size,2,none⟩),.slice af flows.length cf,.int .i64 (flows.length:Int),.int .i64 (i:Int),u29,u30,u31,u32,u33,u34,undef,undef,undef,undef,undef,undef,undef,undef,u43],defers:=Ds.map mk }) (fun a' _=>flows.length-(intOf (a'.tmps.getD 28 undef)).toNat) ⟨_,_,_,_,_,_,_,_,0,[],⟨Zk _,⟨by simp,List.nodup_nil⟩,Zg _ _⟩,rfl⟩ ?_
 rintro _ wr ⟨u9,u29,u30,u31,u32,u33,u34,u43,i,Ds,⟨hi,hM,hbw⟩,rfl⟩
 dsimp only
 have hszw:=hbw.size
 have HM:=hid hM
 have HBW:=hid (HB2.out.trans (hbw.mono oq))
 have hA:=(hbw.block _ oq).trans HA2.out
 have hE:=(hbw.block _ oq).trans HE2.out
 have hpb:=(hbw.block _ oq).trans HPB.out
 have HBR:=hid hbw
 have bA2:Boxed wr (w.heap.size+1) 3 (.int .i64 0):=hA
 have bE2:Boxed wr (w.heap.size+1+1) 38 (.int .i64 0):=hE
 clear hM hbw hA hE
 by_cases hlt:i<flows.length
 ·have hil:(i:Int)<(flows.length:Int):=oq
  obtain⟨⟨x0,x1,x2,x3⟩,xf⟩:=Yu hpb
  obtain⟨hf1,hf2⟩:=HFL.out _ (Zi hlt)
  obtain⟨f,hf⟩:∃f,flows[i]=f:=⟨_,rfl⟩
  have HFC:=hid (HFS.out wr HBW.out i hlt oq)
  rw[hf] at HFC hf1 hf2
  obtain⟨fnm,⟨k1,nm1,n1,d1,args1,a1⟩,fa⟩:=f
  unfold PE.sz at hf1
  have HG2:=hid hf2
  have hdg:=Ju (i:=i) oq
  unfold spv at HFC
  simp only at HFC hf1
  clear hf hf2 hpb
  gi_wp2_with (refine⟨trivial,?_⟩;first|(gi_at_call 76;refine(Zs.2 HFC.out).mono ?_;rintro x w3 ⟨⟨ad2,cap2,rfl,hae⟩,hb3⟩)|(gi_at_call 75;refine(Zs.2 (UP (w:=w3) ⟨k1,nm1,n1,d1,args1,a1⟩ ad2 cap2 (dg i))).mono ?_;rintro x w4 ⟨rfl,rfl⟩))
  have HSP:=hid (show X9 w ⟨k1,nm1,n1,d1,args1,a1⟩ ad2 cap2 (dg i) from ⟨hae,HG2.out,by show(dg i).size+3*args1.sz≤500;omega,by show args1.sz<100;omega⟩)
  have bX:=Yt w3 (.cells #[.int .i64 k1,.string nm1,.int .i64 n1,.int .i64 d1,.slice ad2 args1.len cap2,.int .i64 a1,.string (dg i)] 157)
  have hb4:Below wr.heap.size wr (w3.alloc (.cells #[.int .i64 k1,.string nm1,.int .i64 n1,.int .i64 d1,.slice ad2 args1.len cap2,.int .i64 a1,.string (dg i)] 157)):=hb3.alloc hb3.size _
  have hsz1:(w3.alloc (.cells #[.int .i64 k1,.string nm1,.int .i64 n1,.int .i64 d1,.slice ad2 args1.len cap2,.int .i64 a1,.string (dg i)] 157)).heap.size=w3.heap.size+1:=by simp
  have hs3:=hb3.size
  obtain⟨W1,hW1⟩:∃W1,w3.alloc (.cells #[.int .i64 k1,.string nm1,.int .i64 n1,.int .i64 d1,.slice ad2 args1.len cap2,.int .i64 a1,.string (dg i)] 157)=W1:=⟨_,rfl⟩
  rw[hW1] at bX hb4 hsz1 ⊢
  have HB4:=hid hb4
  have HWL:=hid (show Below w.heap.size w W1 from HBW.out.trans (hb4.mono oq))
  have hszw1:w.heap.size≤W1.heap.size:=oq
  have HBX:=hid bX
  clear hW1 hb4 hae hb3 bX bA2 bE2 x0 x1 x2 x3 xf HFC
  refine wpIn_rangeFunc_ownH (encs:=fun x:VS w=>#[.agg #[.int .i64 x.s.1.k,.string x.s.1.nm,.int .i64 x.s.1.n,.int .i64 x.s.1.d,.slice x.ad x.s.1.args.len x.cap,.int .i64 x.s.1.a,.string x.s.2]]) rfl oq (gf:=116) (lb:=#[.pointer (some ⟨w3.heap.size,0,none⟩)]) rfl trivial (enters_of Tryz.func116 kq rfl)
   (Vl (W0:=w) Fence.wide rfl trivial trivial trivial rfl (Kp w) _ w3.heap.size ⟨k1,nm1,n1,d1,args1,a1⟩ ad2 cap2 (dg i) HSP.out W1 W1.heap.size (Zc _) HWL.out HBX.out) (fun h k=>h.trans k) (fun W l o o' hl h hc _=>KF.putObj W l o o' oq h hc) (Zg _ _) (fun _=>rfl)
   (fun pre W=>Below W1.heap.size W1 W)
   (fun c pre W=>False)
   (ownFrom_below (Zc _) (Zc _))
   (fun c s X Y row hs _ _=>hs.elim)
   (Zg _ _)
   (fun x a' W=>∃Bx,W1.heap.size≤Bx∧W.heap[Bx]?=some (.cells #[.int .i64 x.s.1.k,.string x.s.1.nm,.int .i64 x.s.1.n,.int .i64 x.s.1.d,.slice x.ad x.s.1.args.len x.cap,.int .i64 x.s.1.a,.string x.s.2] 157 (0,0)) ∧
    ∃A0:Array Value,a'={ tmps:=#[A0.getD 0 undef,A0.getD 1 undef,A0.getD 2 undef,A0.getD 3 undef,A0.getD 4 undef,A0.getD 5 undef,A0.getD 6 undef,A0.getD 7 undef,A0.getD 8 undef,A0.getD 9 undef,.pointer (some ⟨Bx,0,none⟩),A0.getD 11 undef,A0.getD 12 undef,A0.getD 13 undef,A0.getD 14 undef,A0.getD 15 undef,A0.getD 16 undef,A0.getD 17 undef,A0.getD 18 undef,A0.getD 19 undef,A0.getD 20 undef,A0.getD 21 undef,A0.getD 22 undef,A0.getD 23 undef,A0.getD 24 undef,A0.getD 25 undef,A0.getD 26 undef,A0.getD 27 undef,A0.getD 28 undef,A0.getD 29 undef,A0.getD 30 undef,A0.getD 31 undef,A0.getD 32 undef,A0.getD 33 undef,A0.getD 34 undef,A0.getD 35 undef,A0.getD 36 undef,A0.getD 37 undef,A0.getD 38 undef,A0.getD 39 undef,A0.getD 40 undef,A0.getD 41 undef,A0.getD 42 undef,A0.getD 43 undef],defers:=[] })
   (fun x a' _ X Y row hs hg hrw=>by
    obtain⟨Bx,h1,h2,h3⟩:=hs
    refine⟨Bx,h1,(hg.block Bx (Zq.1 h2).1 (fun e=>?_)).trans h2,h3⟩
    obtain⟨_,o,ho,hc⟩:=hrw Bx e.symm
    rw[h2] at ho;cases ho;cases hc)
   ?assign ?body ?done ?stop
  case assign =>
   rintro l pre x W K hBW hK
   gi_wp2
   exact hK _ _ ((KeepsOthers.alloc _ _).from _) ((KF.refl _ _ W).alloc (Zm hszw1 hBW.size) _) (hBW.alloc hBW.size _) ⟨W.heap.size,hBW.size,Yt W _,⟨#[.agg #[.slice an nodes.length cn,.slice ai ins.length ci,.slice af flows.length cf,.slice ao outs.length co],.slice (some ⟨bc,0,none⟩) l'.length l'.length,.pointer (some ⟨w.heap.size,0,none⟩),undef,.pointer (some ⟨w.heap.size+1,0,none⟩),.pointer (some ⟨w.heap.size+1+1,0,none⟩),.slice (some ⟨b',0,none⟩) l'.length l'.length,.int .i64 0,.int .i64 0,.int .i64 (i:Int),undef,.tuple #[.slice (some ⟨b',0,none⟩) l'.length l'.length,.int .i64 0,.int .i64 0],.agg #[.slice an nodes.length cn,.slice ai ins.length ci,.slice af flows.length cf,.slice ao outs.length co],.tuple #[.slice (some ⟨b',0,none⟩) l'.length l'.length,.int .i64 0,.int .i64 0],.slice (some ⟨b',0,none⟩) l'.length l'.length,.int .i64 0,.int .i64 0,.int .i64 0,.bool false,undef,undef,.slice (some ⟨b',0,none⟩) l'.length l'.length,.slice (some ⟨bc,0,none⟩) l'.length l'.length,.bool true,.bool false,.pointer (some ⟨w.heap.size,2,none⟩),.slice af flows.length cf,.int .i64 (flows.length:Int),.int .i64 (i:Int),.bool true,.int .i64 (i:Int),.agg #[.slice an nodes.length cn,.slice ai ins.length ci,.slice af flows.length cf,.slice ao outs.length co],.int .i64 (i:Int),.agg #[.int .i64 k1,.string nm1,.int .i64 n1,.int .i64 d1,.slice ad2 args1.len cap2,.int .i64 a1,.string (dg i)],.func (.func 116) #[] #[.pointer (some ⟨w3.heap.size,0,none⟩)],.agg #[.int .i64 x.s.1.k,.string x.s.1.nm,.int .i64 x.s.1.n,.int .i64 x.s.1.d,.slice x.ad x.s.1.args.len x.cap,.int .i64 x.s.1.a,.string x.s.2],undef,undef,undef,undef,undef,undef,undef,u43],rfl⟩⟩
  case body =>
   rintro l pre ⟨⟨⟨k2,nm2,n2,d2,args2,a2⟩,way2⟩,ad3,cap3,hok⟩ a' W hl ⟨r,hr⟩ hBW ⟨Bx,hBx,hxb,A0,rfl⟩ hlt2
   simp only at hxb
   obtain⟨⟨x0,x1,x2,x3,x4,x5,x6⟩,xf⟩:=YP hxb
   have hsW:=hBW.size
   have HSH:=hid (qO (w:=W) ⟨k2,nm2,n2,d2,args2,a2⟩ ad3 cap3 hok.good)
   unfold ev at HSH
   simp only at HSH
   have HBW2:=hid hBW
   clear hBW hxb hr
   gi_wp2_with (refine⟨trivial,?_⟩;gi_at_call 77;refine(CallsIn.inRound l (Zs.2 HSH.out)).mono ?_;rintro e w5 ⟨rfl,hb5⟩)
   exact⟨⟨hb5.size,fun k o _ hk _=>(hb5.block k (Zb hk)).trans hk⟩,(KF.refl _ _ W).of_below hb5 (Zm hszw1 hsW),HBW2.out.trans (hb5.mono hsW)⟩
  case done =>
   rintro D zs W hD hzs hBW hK
   gi_wp2
   rw[show((i:Int)+1)=((i+1:Nat):Int) by omega]
   refine⟨⟨_,_,_,_,_,_,_,_,i+1,D::Ds,⟨oq,HM.out.cons (HB4.out.trans (hBW.mono oq)) oq oq hK,HBR.out.trans ((HB4.out.trans (hBW.mono oq)).mono oq)⟩,rfl⟩,by simp[intOf];omega⟩
  rintro D c pre W hD hpre hf hK
  exact hf.elim
 have hie:¬(i:Int)<(flows.length:Int):=oq
 have cA:=bA2.cell
 have fA:=bA2.frozen
 have cE:=bE2.cell
 have fE:=bE2.frozen
 gi_wp2
 refine XY Ds _ ((HM.out.set _ _).set _ _) (fun w' hk=>?_)
 have bA3:=hk.same _ _ ((bA2.set (.int .i64 0)).other (show w.heap.size+1≠w.heap.size+1+1 by omega) (.int .i64 0)) rfl
 have bE3:=hk.same _ _ ((bE2.other (show w.heap.size+1+1≠w.heap.size+1 by omega) (.int .i64 0)).set (.int .i64 0)) rfl
 have bA4:=(show Boxed w' _ _ _ from bA3).cell
 have bE4:=(show Boxed w' _ _ _ from bE3).cell
 refine⟨.tuple #[.int .i64 0,.int .i64 0],?_,?_,?_⟩
 ·simp only[results,Tryz.results45];go_simp
 ·exact HEND.out
 exact((HBW.out.setCell (p:=⟨w.heap.size+1,0,none⟩) (by simp) _).setCell (p:=⟨w.heap.size+1+1,0,none⟩) (by simp;omega) _).trans hk.below
def Zcn {α:Type} (F:Fence) (n:Nat) (P:Program) (g:Nat) (lb:Array Value) (encs:α→Array Value) (n₀ Bk:Nat) (S Sp:List α→Prop) (N:Nat) (w:World):Prop :=
 ∀(l:Nat) (J Jx:List α→World→Prop) (W:World),Below w.heap.size w W→OwnFrom W.heap.size J→OwnFrom W.heap.size Jx →
  (∀pre x W1,J pre W1→pre.length<N→YieldAt F (n-1) P l (encs x) W1 fun e W'=>(e=.returned (.bool true)∧J (pre++[x]) W'∧KF n₀ Bk W1 W'∧KeepsFrom W.heap.size W1 W')∨(e=.returned (.bool false)∧Jx (pre++[x]) W'∧KeepsFrom W.heap.size W1 W')) →
  J [] W→CallsIn F n P g (#[.func (.yield l) #[] #[]]++lb) W fun e W'=>(∃v,e=.returned v)∧((∃xs,S xs∧J xs W')∨(∃pre,Sp pre∧Jx pre W'))
theorem qI {α:Type} {F:Fence} {n:Nat} {P:Program} {g:Operand} {ps:Array Tmp} {assign body:Code} {Q:Exit→Act→World→Prop} {a:Act} {w:World} (hro:F.round=none) (h1:1≤n) {gf:Nat} {lb:Array Value}
  (hg:a.eval g=.func (.func gf) #[] lb) (hFg:F.fn gf) (eg:∀args w,(callFunc gf args).run P w=.ok (.enter gf args) w) {encs:α→Array Value} {n₀ Bk:Nat} (hn:n₀≤w.heap.size) {S Sp:List α→Prop} {N:Nat}
  (hseq:Zcn F (n-1) P gf lb encs n₀ Bk S Sp N w) (hps:∀x,(encs x).size=ps.size) (I Ix:List α→World→Prop) (hI:OwnFrom w.heap.size I) (hIx:OwnFrom w.heap.size Ix) (h0:I [] w)
  (Ax:α→Act→World→Prop) (hAx:∀x a',OwnFrom w.heap.size (fun(_:Unit) W=>Ax x a' W))
  (hassign:∀(l:Nat) (pre:List α) (x:α) (W:World) (K:Act→World→Prop),I pre W→(∀a' W',Below W.heap.size W W'→I pre W'→Ax x a' W'→K a' W') →
   assign.wpIn (F.inRound l) (n-1-1) P (Exit.then K (fun _ _ _=>False)) { tmps:=(ps.zip (encs x)).foldl (fun t (p,v)=>t.setIfInBounds p v) a.tmps,defers:=[] } W)
  (hbody:∀(l:Nat) (pre:List α) (x:α) (a':Act) (W:World),w.heap.size≤l→(∃r,W.heap[l]?=some (.loop r))→I pre W→Ax x a' W→pre.length<N →
   body.wpIn (F.inRound l) (n-1-1) P (ownPostG w.heap.size (KF n₀ Bk) I (fun c xs W=>c=.ret∧Ix xs W) (pre++[x]) W) a' W)
  (hdone:∀(D:Nat) (xs:List α) (W:World),w.heap.size≤D→S xs→I xs W→W.heap[D]?=some (.deferred (some []))→Q .normal { a with defers:=mk D::a.defers } W)
  (hstop:∀(D:Nat) (pre:List α) (W:World),w.heap.size≤D→Sp pre→Ix pre W→W.heap[D]?=some (.deferred (some []))→Code.ret.wpIn F n P Q { a with defers:=mk D::a.defers } W) :
  (Code.rangeFunc g ps assign body).wpIn F n P Q a w:=by
 refine wpIn_rangeFunc (fun fn hfn=>?_)
 rw[hro]
 let R:LoopState→Option Code→Loop:=fun st pe=>{ state:=st,pending:=pe,fn,tmps:=a.tmps,params:=ps,assign,body,defers:=w.heap.size }
 let W1:World:=(w.alloc (.deferred (some []))).alloc (.loop (R .ready none))
 have hs1:W1.heap.size=w.heap.size+2:=by simp[W1]
 have hb1:Below w.heap.size w W1:=((Zg _ w).alloc (Zc _) _).alloc (by simp) _
 have hL:W1.heap[w.heap.size+1]?=some (.loop (R .ready none)):=by
  have:=World.alloc_heap_new (w.alloc (.deferred (some []))) (.loop (R .ready none))
  rwa [Zt] at this
 have hD:W1.heap[w.heap.size]?=some (.deferred (some [])):=(Za _ _ _ (by simp)).trans (World.alloc_heap_new w _)
 refine⟨w.heap.size+1,[mk w.heap.size],W1,{ target:=.fn (.func gf) lb,args:=#[.func (.yield (w.heap.size+1)) #[] #[]] },W1,gf,#[.func (.yield (w.heap.size+1)) #[] #[]]++lb,W1,run_enterLoop_outer _ _ _ _ _,?_,?_,?_,fun _=>h1,?_⟩
 ·simp only[resolve,hg]
  simp[go_sem]
 ·intro f' hf'
  simp[Target.leads] at hf'
  subst hf'
  exact hFg
 ·simp[invoke,go_sem,eg]
 have hrow:∀{A B:World} {row:Option Nat} {k:Nat} {o:Obj},A.grownBy B row→(∀r,row=some r→W1.heap.size≤r∧∃o:Obj,A.heap[r]?=some o∧o.isCells=false)→k<W1.heap.size→A.heap[k]?=some o→B.heap[k]?=some o:=by
  intro A B row k o hgr hr hk ho
  refine(hgr.block k (Zq.1 ho).1 (fun e=>?_)).trans ho
  have:=(hr k e.symm).1
  omega
 have hlow:∀{A:World} {row:Option Nat},(∀r,row=some r→W1.heap.size≤r∧∃o:Obj,A.heap[r]?=some o∧o.isCells=false)→(∀r,row=some r→w.heap.size≤r∧∃o:Obj,A.heap[r]?=some o∧o.isCells=false) :=
  fun hr r e=>⟨by have:=(hr r e).1;omega,(hr r e).2⟩
 refine(hseq (w.heap.size+1) (fun pre W=>(I pre W∧W.heap[w.heap.size+1]?=some (.loop (R .ready none)))∧W.heap[w.heap.size]?=some (.deferred (some [])))
  (fun pre W=>(Ix pre W∧W.heap[w.heap.size+1]?=some (.loop (R .done (some .ret))))∧W.heap[w.heap.size]?=some (.deferred (some []))) W1 hb1
  (fun s A B row hs hgr hr=>⟨⟨hI s A B row hs.1.1 hgr (hlow hr),hrow hgr hr oq hs.1.2⟩,hrow hgr hr oq hs.2⟩)
  (fun s A B row hs hgr hr=>⟨⟨hIx s A B row hs.1.1 hgr (hlow hr),hrow hgr hr oq hs.1.2⟩,hrow hgr hr oq hs.2⟩) ?_ ⟨⟨hI.alloc _ (hI.alloc _ h0),hL⟩,hD⟩).mono ?_
 ·rintro pre x W ⟨⟨hi,hl⟩,hk⟩ hlen
  refine⟨fn,_,assign,body,run_yield (P:=P) (args:=encs x) hl (hps x),roundIn_of_wpIn hfn (hassign _ pre x W _ hi (fun a' Wa hba hia hax=>?_))⟩
  have hla:=(hba.block _ (Zq.1 hl).1).trans hl
  have hka:=(hba.block _ (Zq.1 hk).1).trans hk
  have hlt:w.heap.size+1<Wa.heap.size:=(Zq.1 hla).1
  have hWs:w.heap.size+1<W.heap.size:=(Zq.1 hl).1
  refine⟨_,run_beginRound hla rfl,?_⟩
  have hlb:(Wa.putObj (w.heap.size+1) (.loop { R .ready none with state:=.busy })).heap[w.heap.size+1]?=some (.loop { R .ready none with state:=.busy }):=World.putObj_heap_same hlt
  have hkb:(Wa.putObj (w.heap.size+1) (.loop { R .ready none with state:=.busy })).heap[w.heap.size]?=some (.deferred (some [])):=(World.putObj_heap_other oq).trans hka
  have hKa:KF n₀ Bk W Wa:=(KF.refl n₀ Bk W).of_below hba oq
  have hKb:KF n₀ Bk W (Wa.putObj (w.heap.size+1) (.loop { R .ready none with state:=.busy })):=hKa.trans (KF.putObj _ _ _ _ oq hla rfl)
  have hfb:KeepsFrom W1.heap.size W (Wa.putObj (w.heap.size+1) (.loop { R .ready none with state:=.busy })):=⟨by simpa using hba.size,fun k o hk1 hko _=>(World.putObj_heap_other oq).trans ((hba.block k (Zq.1 hko).1).trans hko)⟩
  refine wpIn_mono (hbody _ pre x a' _ oq ⟨_,hlb⟩ (hI.putObj _ hia oq hla rfl) ((hAx x a').putObj (s:=()) _ hax oq hla rfl) hlen) ?_
  rintro e a3 W3 hp
  cases e with
  | normal =>
   obtain⟨hk3,hkp3,hi3⟩:=hp
   have hl3:=hk3.same _ _ oq hlb rfl
   have hd3:=hk3.same _ _ (Zc _) hkb rfl
   refine⟨_,_,run_endRound (P:=P) none hl3,.inl ⟨rfl,⟨⟨hI.putObj _ hi3 oq hl3 rfl,World.putObj_heap_same (Zq.1 hl3).1⟩,(World.putObj_heap_other oq).trans hd3⟩,(hKb.trans hkp3).trans (KF.putObj _ _ _ _ oq hl3 rfl),?_⟩⟩
   exact⟨Zm (Zm hfb.size hk3.size) (by simp),fun k o hk1 hko hc=>(World.putObj_heap_other oq).trans (hk3.same _ _ oq (hfb.same k o hk1 hko hc) hc)⟩
  | ret =>
   obtain⟨hk3,_,hi3⟩:=hp
   have hl3:=hk3.same _ _ oq hlb rfl
   have hd3:=hk3.same _ _ (Zc _) hkb rfl
   refine⟨_,_,run_endRound (P:=P) (some .ret) hl3,.inr ⟨rfl,⟨⟨hIx.putObj _ hi3 oq hl3 rfl,World.putObj_heap_same (Zq.1 hl3).1⟩,(World.putObj_heap_other oq).trans hd3⟩,?_⟩⟩
   exact⟨Zm (Zm hfb.size hk3.size) (by simp),fun k o hk1 hko hc=>(World.putObj_heap_other oq).trans (hk3.same _ _ oq (hfb.same k o hk1 hko hc) hc)⟩
  | exit id=>obtain⟨_,h,_⟩:=hp;cases h
  | goto t=>obtain⟨_,h,_⟩:=hp;cases h
  | panic ch=>exact hp.elim
  | outgrown=>exact hp.elim
 rintro e W2 ⟨⟨v,rfl⟩,(⟨xs,hS,⟨hi,hl⟩,hk⟩|⟨pre,hSp,⟨hi,hl⟩,hk⟩)⟩
 ·exact⟨none,_,run_endLoop (P:=P) hl (by simp[R]),hdone _ xs _ (Zc _) hS (hI.putObj _ hi oq hl rfl) ((World.putObj_heap_other oq).trans hk)⟩
 exact⟨some .ret,_,run_endLoop (P:=P) hl (by simp[R]),hstop _ pre _ (Zc _) hSp (hIx.putObj _ hi oq hl rfl) ((World.putObj_heap_other oq).trans hk)⟩
attribute [local go_sem] ZS
def MkB (W:World) (m:Nat) (p:PG) (an ai af ao:Option Addr) (cn ci cf co:Nat) (mc mi mf mn mx:Nat):Prop :=
 W.heap[m]?=some (.cells #[.slice an p.nodes.length cn,.slice ai p.ins.length ci,.slice af p.flows.length cf,.slice ao p.outs.length co,.map (some mc),.map (some mi),.map (some mf),.map (some mn),.map (some mx)] 162 (0,0))
theorem YN {w:World} {b:Nat} {v0 v1 v2 v3 v4 v5 v6 v7 v8:Value} {t:TypeId} (h:w.heap[b]?=some (.cells #[v0,v1,v2,v3,v4,v5,v6,v7,v8] t (0,0))) :
  (w.cell? ⟨b,0,none⟩=some v0∧w.cell? ⟨b,1,none⟩=some v1∧w.cell? ⟨b,2,none⟩=some v2∧w.cell? ⟨b,3,none⟩=some v3∧w.cell? ⟨b,4,none⟩=some v4∧w.cell? ⟨b,5,none⟩=some v5∧w.cell? ⟨b,6,none⟩=some v6∧w.cell? ⟨b,7,none⟩=some v7∧w.cell? ⟨b,8,none⟩=some v8)∧∀o,w.frozen? ⟨b,o,none⟩=false:=by
 refine⟨⟨?_,?_,?_,?_,?_,?_,?_,?_,?_⟩,?_⟩
 all_goals first|(intro o;simp[World.frozen?,h])|simp[World.cell?,h]
theorem Vw {w:World} (m i:Nat):Calls Tryz.prog 79 #[.pointer (some ⟨m,0,none⟩),.int .i64 (i:Int)] w fun x w' =>
  x=.returned (.func (.func 119) #[] #[.pointer (some ⟨w.heap.size,0,none⟩),.pointer (some ⟨w.heap.size+1,0,none⟩)]) ∧
   w'=(w.alloc (.cells #[.pointer (some ⟨m,0,none⟩)] 116)).alloc (.cells #[.int .i64 (i:Int)] 3):=by
 go_enter Tryz.func79,Tryz.ntmps79
 go_wp2
 go_ret
 exact⟨rfl,rfl⟩
def isC (s:PE × ByteArray):Bool:=decide (s.1.k=2)
theorem qG {β:Type} {n₀ Bk:Nat} {W:World} (hn:n₀≤W.heap.size):OwnFrom W.heap.size (fun(_:β) X=>KF n₀ Bk W X):=by
 intro s X Y row hs hg hr
 refine⟨ownFrom_below (β:=Unit) hn hn () X Y row hs.below hg hr,fun k o hb hk hc=>?_⟩
 have h1:=hs.same k o hb hk hc
 refine(hg.block k (Zq.1 h1).1 (fun e=>?_)).trans h1
 obtain⟨_,o',ho',hc'⟩:=hr k e.symm
 rw[h1] at ho'
 cases ho'
 rw[KU hc] at hc'
 cases hc'
theorem jE {β:Type} {B B':Nat} {I:β→World→Prop} (h:OwnFrom B I) (hb:B≤B'):OwnFrom B' I:=fun s X Y row hs hg hr=>h s X Y row hs hg (fun r e=>⟨Zm hb (hr r e).1,(hr r e).2⟩)
theorem zQ {W0:World} (p:PG) (an ai af ao:Option Addr) (cn ci cf co:Nat) (hp:AP W0 p an ai af ao cn ci cf co) (hok:Jd p) (mc mi mf mn mx:Nat) (m B1 B2 i n l Bk:Nat) (hi:i<p.flows.length) (J Jx:List (VS W0)→World→Prop) (W:World)
  (hB:Below W0.heap.size W0 W) (hBk:Bk≤W.heap.size) (hm:MkB W m p an ai af ao cn ci cf co mc mi mf mn mx) (hb1:Boxed W B1 116 (.pointer (some ⟨m,0,none⟩))) (hb2:Boxed W B2 3 (.int .i64 (i:Int))) (hJ:OwnFrom W.heap.size J) (hJx:OwnFrom W.heap.size Jx)
  (hY:∀pre x W1,J pre W1→pre.length<p.flows[i].e.args.sz+1→YieldAt Fence.wide (n-1) Tryz.prog l (VS.vs x) W1 fun e W'=>(e=.returned (.bool true)∧J (pre++[x]) W'∧KF W0.heap.size Bk W1 W'∧KeepsFrom W.heap.size W1 W')∨(e=.returned (.bool false)∧Jx (pre++[x]) W'∧KeepsFrom W.heap.size W1 W'))
  (h0:J [] W) :
  CallsIn Fence.wide n Tryz.prog 119 #[.func (.yield l) #[] #[],.pointer (some ⟨B1,0,none⟩),.pointer (some ⟨B2,0,none⟩)] W fun e W'=>(∃v,e=.returned v) ∧
   ((∃xs:List (VS W0),xs.map (·.s)=(Xg p.flows[i].e (dg i)).filter isC∧J xs W')∨(∃pre:List (VS W0),pre.map (·.s) <+: (Xg p.flows[i].e (dg i)).filter isC∧Jx pre W')):=by
 have HFS:=hid (fun(w':World) (hb:Below W0.heap.size W0 w')=>Qc hb p an ai af ao cn ci cf co hp i hi (by have:=hok.lens;omega))
 obtain⟨hf1,hf2⟩:=hok.flows _ (Zi hi)
 obtain⟨⟨k1,nm1,n1,d1,args1,a1⟩,he⟩:∃e,p.flows[i].e=e:=⟨_,rfl⟩
 rw[he] at HFS hY hf1 hf2 ⊢
 unfold PE.sz at hf1
 have HG2:=hid hf2
 have hdg:=Ju (i:=i) (by have:=hok.lens;omega)
 have HY:=hid hY
 have HMB:=hid hm
 have HB:=hid hB
 have HB1:=hid hb1
 have HB2:=hid hb2
 have HJ:=hid hJ
 have HJX:=hid hJx
 have H0:=hid h0
 obtain⟨⟨x0,x1,x2,x3,x4,x5,x6,x7,x8⟩,xf⟩:=YN (show W.heap[m]?=_ from hm)
 have c1:=hb1.cell
 have c2:=hb2.cell
 have hsz:=hB.size
 have hlm:=Zb hm
 have hl1:=hb1.lt
 have hl2:=hb2.lt
 unfold pv spv at HFS
 simp only at HFS hf1
 clear hf2 hY hm hB hb1 hb2 hJ hJx h0 he
 refine(Zs (n:=n)).2 ((Zs (n:=6)).1 ?_)
 refine callsIn_of_wp_marks Tryz.func119 rfl trivial ?_ rfl
 simp only[Tryz.ntmps119,ZH,Zp,Zv,Nat.reduceAdd,Nat.reduceSub,ZE,ZD,ZK,ZI,ZL,ZB]
 gi_wp2
 obtain⟨W3,hW3⟩:∃W3,W.alloc (.cells #[.func (.yield l) #[] #[]] 165)=W3:=⟨_,rfl⟩
 have hb3:Below W.heap.size W W3:=by rw[←hW3];exact(Zg _ _).alloc (Zc _) _
 have bY3:Boxed W3 W.heap.size 165 (.func (.yield l) #[] #[]):=by rw[←hW3];exact Boxed.new _ _ _
 have hs3:W3.heap.size=W.heap.size+1:=by rw[←hW3];simp
 rw[hW3]
 clear hW3 x0 x1 x2 x3 x4 x5 x6 x7 x8 xf c1 c2
 obtain⟨⟨x0,x1,x2,x3,x4,x5,x6,x7,x8⟩,xf⟩:=YN ((hb3.block _ hlm).trans HMB.out)
 have c1:=(show Boxed W3 B1 _ _ from(hb3.block _ hl1).trans HB1.out).cell
 have c2:=(show Boxed W3 B2 _ _ from(hb3.block _ hl2).trans HB2.out).cell
 have HB3:=hid hb3
 have HBY:=hid bY3
 clear hb3 bY3
 refine wpIn_wide.2 ?_
 go_still_tail 5,kq
 change wpList _ _ _ _ _ W3.drew
 have hbd:Below W3.heap.size W3 W3.drew:=⟨rfl,rfl,rfl,Zc _,fun k _=>rfl⟩
 go_wp2_with (first|(go_at_call 76;refine(HFS.out W3.drew (HB.out.trans ((HB3.out.trans (hbd.mono oq)).mono hsz))).mono ?_;rintro x w4 ⟨⟨ad2,cap2,rfl,hae⟩,hb4⟩)|(go_at_call 75;refine(UP (w:=w4) ⟨k1,nm1,n1,d1,args1,a1⟩ ad2 cap2 (dg i)).mono ?_;rintro x w5 ⟨rfl,rfl⟩))
 have HSP:=hid (show X9 W0 ⟨k1,nm1,n1,d1,args1,a1⟩ ad2 cap2 (dg i) from ⟨hae,HG2.out,by show(dg i).size+3*args1.sz≤500;omega,by show args1.sz<100;omega⟩)
 have bX:=Yt w4 (.cells #[.int .i64 k1,.string nm1,.int .i64 n1,.int .i64 d1,.slice ad2 args1.len cap2,.int .i64 a1,.string (dg i)] 157)
 have hs4:W3.heap.size≤w4.heap.size:=hb4.size
 have hb5:Below W3.heap.size W3 (w4.alloc (.cells #[.int .i64 k1,.string nm1,.int .i64 n1,.int .i64 d1,.slice ad2 args1.len cap2,.int .i64 a1,.string (dg i)] 157)):=(hbd.trans (show Below W3.heap.size W3.drew w4 from hb4)).alloc hs4 _
 have hsz1:(w4.alloc (.cells #[.int .i64 k1,.string nm1,.int .i64 n1,.int .i64 d1,.slice ad2 args1.len cap2,.int .i64 a1,.string (dg i)] 157)).heap.size=w4.heap.size+1:=by simp
 obtain⟨W5,hW5⟩:∃W5,w4.alloc (.cells #[.int .i64 k1,.string nm1,.int .i64 n1,.int .i64 d1,.slice ad2 args1.len cap2,.int .i64 a1,.string (dg i)] 157)=W5:=⟨_,rfl⟩
 rw[hW5] at bX hb5 hsz1 ⊢
 have hbW5:Below W.heap.size W W5:=HB3.out.trans (hb5.mono oq)
 have HWL:=hid (show Below W0.heap.size W0 W5 from HB.out.trans (hbW5.mono hsz))
 have HBX:=hid bX
 have HBY5:=hid (show Boxed W5 W.heap.size 165 (.func (.yield l) #[] #[]) from(hb5.block _ oq).trans HBY.out)
 have H05:=hid (show J [] W5 from HJ.out [] W W5 none H0.out ⟨hbW5.os,hbW5.tape,hbW5.output,hbW5.size,fun k hk _=>hbW5.block k hk⟩ (fun r e=>by cases e))
 have hn5:W0.heap.size≤W5.heap.size:=oq
 have hn6:W.heap.size≤W5.heap.size:=oq
 clear hW5 hae hb4 bX hb5 hbd x0 x1 x2 x3 x4 x5 x6 x7 x8 xf c1 c2 HFS hbW5
 gi_wp2
 refine wpIn_rangeFunc_ownH (encs:=fun x:VS W0=>#[.agg #[.int .i64 x.s.1.k,.string x.s.1.nm,.int .i64 x.s.1.n,.int .i64 x.s.1.d,.slice x.ad x.s.1.args.len x.cap,.int .i64 x.s.1.a,.string x.s.2]]) rfl oq (gf:=116) (lb:=#[.pointer (some ⟨w4.heap.size,0,none⟩)]) rfl trivial (enters_of Tryz.func116 kq rfl)
  (Vl (W0:=W0) Fence.wide rfl trivial trivial trivial rfl (Kp W0) _ w4.heap.size ⟨k1,nm1,n1,d1,args1,a1⟩ ad2 cap2 (dg i) HSP.out W5 Bk oq HWL.out HBX.out) (fun h k=>h.trans k) (fun W l o o' hl h hc _=>KF.putObj W l o o' oq h hc) (Zg _ _) (fun _=>rfl)
  (fun pre X=>KF W0.heap.size Bk W5 X∧∃ys:List (VS W0),J ys X∧(ys.map (·.s)=(pre.map (·.s)).filter isC∧ys.length≤pre.length))
  (fun c pre X=>c=.ret∧∃ys:List (VS W0),Jx ys X∧ys.map (·.s)=(pre.map (·.s)).filter isC)
  (OwnFrom.and (qG hn5) (fun s X Y row hs hg hr=>by obtain⟨ys,h1,h2⟩:=hs;exact⟨ys,(jE HJ.out hn6) ys X Y row h1 hg hr,h2⟩))
  (fun c s X Y row hs hg hr=>by obtain⟨h0,ys,h1,h2⟩:=hs;exact⟨h0,ys,(jE HJX.out hn6) ys X Y row h1 hg hr,h2⟩)
  ⟨KF.refl _ _ _,[],H05.out,rfl,Zc _⟩
  (fun x a' X=>∃Bx,W5.heap.size≤Bx∧X.heap[Bx]?=some (.cells #[.int .i64 x.s.1.k,.string x.s.1.nm,.int .i64 x.s.1.n,.int .i64 x.s.1.d,.slice x.ad x.s.1.args.len x.cap,.int .i64 x.s.1.a,.string x.s.2] 157 (0,0)) ∧
   a'={ tmps:=#[.func (.yield l) #[] #[],.pointer (some ⟨B1,0,none⟩),.pointer (some ⟨B2,0,none⟩),.pointer (some ⟨W.heap.size,0,none⟩),.pointer (some ⟨Bx,0,none⟩),.pointer (some ⟨m,0,none⟩),.pointer (some ⟨m,0,none⟩),.pointer (some ⟨m,0,none⟩),.agg #[.slice an p.nodes.length cn,.slice ai p.ins.length ci,.slice af p.flows.length cf,.slice ao p.outs.length co],.int .i64 (i:Int),.agg #[.int .i64 k1,.string nm1,.int .i64 n1,.int .i64 d1,.slice ad2 args1.len cap2,.int .i64 a1,.string (dg i)],.func (.func 116) #[] #[.pointer (some ⟨w4.heap.size,0,none⟩)],.agg #[.int .i64 x.s.1.k,.string x.s.1.nm,.int .i64 x.s.1.n,.int .i64 x.s.1.d,.slice x.ad x.s.1.args.len x.cap,.int .i64 x.s.1.a,.string x.s.2],undef,undef,undef,undef,undef,undef,undef,undef,undef,undef],defers:=[] })
  (fun x a' _ X Y row hs hg hrw=>by
   obtain⟨Bx,h1,h2,h3⟩:=hs
   refine⟨Bx,h1,(hg.block Bx (Zq.1 h2).1 (fun e=>?_)).trans h2,h3⟩
   obtain⟨_,o,ho,hc⟩:=hrw Bx e.symm
   rw[h2] at ho;cases ho;cases hc)
  ?assign ?body ?done ?stop
 case assign =>
  rintro l2 pre x X K ⟨hKX,ys,hys,hy2⟩ hK
  gi_wp2
  have hsX:=hKX.below.size
  exact hK _ _ ((KeepsOthers.alloc _ _).from _) ((KF.refl _ _ X).alloc oq _) ⟨hKX.alloc oq _,ys,HJ.out ys X _ none hys (World.grownBy_alloc X _ none) (fun r e=>by cases e),hy2⟩ ⟨X.heap.size,hsX,Yt X _,rfl⟩
 case body =>
  rintro l2 pre ⟨⟨⟨k2,nm2,n2,d2,args2,a2⟩,way2⟩,ad3,cap3,hok⟩ a' X hl2' ⟨r,hr⟩ ⟨hKX,ys,hys,hy2,hy3⟩ ⟨Bx,hBx,hxb,rfl⟩ hlt2
  simp only at hxb
  obtain⟨⟨x0,x1,x2,x3,x4,x5,x6⟩,xf⟩:=YP hxb
  have hsX:W5.heap.size≤X.heap.size:=hKX.below.size
  have cY:=(show Boxed X W.heap.size _ _ from hKX.same _ _ hBk HBY5.out rfl).cell
  obtain⟨V,hV1,hV2⟩:∃V:VS W0,V=⟨(⟨k2,nm2,n2,d2,args2,a2⟩,way2),ad3,cap3,hok⟩∧V.vs=#[.agg #[.int .i64 k2,.string nm2,.int .i64 n2,.int .i64 d2,.slice ad3 args2.len cap3,.int .i64 a2,.string way2]]:=⟨_,rfl,rfl⟩
  rw[←hV1]
  by_cases hk2:k2=2
  ·subst hk2
   have hsel:isC V.s=true:=by rw[hV1];rfl
   have hlt3:pre.length<args1.sz+1:=hlt2
   obtain⟨fn,tmps,assign,body,hy,hR⟩:=YieldAt.deep (F:=Fence.wide) rfl 3 (HY.out ys V X hys (by show ys.length<args1.sz+1;omega))
   rw[hV2] at hy
   have HR:=hid hR
   have HKX:=hid hKX
   clear hR hr hxb hKX hlt2
   gi_wp2
   refine RoundIn.mono (show RoundIn (Fence.wide.inRound l2) 3 _ _ _ _ _ _ _ _ from HR.out) ?_
   rintro e w7 (⟨rfl,hJ7,hk7,hf7⟩|⟨rfl,hJ7,hf7⟩)
   ·gi_wp2
    exact⟨⟨hf7.size,fun k o hk ho hc=>hf7.same k o oq ho hc⟩,hk7,HKX.out.trans hk7,ys++[V],hJ7,by rw[ZT,ZT,List.filter_append,hy2];simp[hsel],by simp;omega⟩
   gi_wp2
   exact⟨⟨hf7.size,fun k o hk ho hc=>hf7.same k o oq ho hc⟩,rfl,ys++[V],hJ7,by rw[ZT,ZT,List.filter_append,hy2];simp[hsel]⟩
  have hk2':(k2 == 2)=false:=ZW.2 hk2
  have hsel:isC V.s=false:=by rw[hV1];exact ZX hk2
  gi_wp2
  repeat (refine⟨(fun(f:FuncId) (h:none=some f)=>by cases h),?_⟩;gi_wp2)
  exact⟨KeepsFrom.refl _ _,KF.refl _ _ _,hKX,ys,hys,by rw[ZT,List.filter_append,hy2];simp[hsel],by simp;omega⟩
 case done =>
  rintro D zs X hD hzs ⟨hKX,ys,hys,hy2,hy3⟩ hK
  gi_wp2
  refine⟨by simp,.inl ⟨_,_,rfl,run_takeDeferred hK,?_⟩⟩
  refine⟨_,results_none rfl _ _ _,⟨_,rfl⟩,.inl ⟨ys,by rw[hy2,hzs],HJ.out.putObj _ hys oq hK rfl⟩⟩
 rintro D c pre X hD hpre ⟨rfl,ys,hys,hy2⟩ hK
 gi_wp2
 refine⟨by simp,.inl ⟨_,_,rfl,run_takeDeferred hK,?_⟩⟩
 refine⟨_,results_none rfl _ _ _,⟨_,rfl⟩,.inr ⟨ys,?_,HJX.out.putObj _ hys oq hK rfl⟩⟩
 rw[hy2]
 exact hpre.filter _
theorem Qo:Xs 110 9 50 (.agg #[.int .i64 0,.int .i64 0]):=⟨by kernel_rfl,by kernel_rfl,fun w=>by kernel_rfl,fun b s w=>by cases b<;>kernel_rfl⟩
theorem QA:Xs 159 9 3 (.int .i64 0):=⟨by kernel_rfl,by kernel_rfl,fun w=>by kernel_rfl,fun b s w=>by cases b<;>kernel_rfl⟩
theorem jO:Xs 160 155 3 (.int .i64 0):=⟨by kernel_rfl,by kernel_rfl,fun w=>by kernel_rfl,fun b s w=>by cases b<;>kernel_rfl⟩
abbrev IE:=ByteArray→Option Nat
def VG (e:IE) (k:ByteArray) (j:Nat):IE:=fun nm=>if nm=k then some j else e nm
def inI:List ByteArray→Nat→IE→IE
 | [],_,e=>e
 | k::l,i,e=>inI l (i+1) (VG e k i)
def Xf (L:List (ByteArray × Value)) (e:IE):Prop:=∀nm,YT nm L=(e nm).map (fun j=>.int .i64 (j:Int))
theorem Xf.nil:Xf [] (fun _=>none):=fun _=>rfl
theorem Xf.put {L:List (ByteArray × Value)} {e:IE} (h:Xf L e) (k:ByteArray) (j:Nat):Xf (QZ k (.int .i64 (j:Int)) L) (VG e k j):=by
 intro nm
 rw[JQ]
 unfold VG
 by_cases hk:nm=k
 ·rw[Z0 hk,Z0 hk];rfl
 rw[ZZ hk,ZZ hk];exact h nm
theorem KL:∀(l:List ByteArray) (i:Nat) (e:IE) (nm:ByteArray) (j:Nat),inI l i e nm=some j→(∃h:j-i<l.length,i≤j∧l[j-i]=nm)∨e nm=some j
 | [],i,e,nm,j,h=>.inr h
 | k::l,i,e,nm,j,h=>by
  rcases KL l (i+1) (VG e k i) nm j h with ⟨h1,h2,h3⟩|h1
  ·refine .inl ⟨by simp only[Zp];omega,oq,?_⟩
   have he:j-i=(j-(i+1))+1:=oq
   simp only[he,List.getElem_cons_succ]
   exact h3
  unfold VG at h1
  by_cases hk:nm=k
  ·rw[Z0 hk] at h1
   injection h1 with h1
   subst h1
   refine .inl ⟨by simp,Zc _,?_⟩
   simp[hk]
  rw[ZZ hk] at h1
  exact .inr h1
theorem G4:∀(l:List ByteArray) (i:Nat) (e:IE) (nm:ByteArray),e nm≠none→inI l i e nm≠none
 | [],i,e,nm,h=>h
 | k::l,i,e,nm,h=>G4 l (i+1) (VG e k i) nm (by
  unfold VG
  by_cases hk:nm=k
  ·rw[Z0 hk];exact Option.some_ne_none _
  rw[ZZ hk];exact h)
theorem G5:∀(l:List ByteArray) (i:Nat) (e:IE) (nm:ByteArray),nm∈l→inI l i e nm≠none
 | k::l,i,e,nm,h=>by
  rcases ZQ.1 h with rfl|h
  ·refine G4 l (i+1) _ nm ?_
   unfold VG
   rw[Z0 rfl]
   exact Option.some_ne_none _
  exact G5 l (i+1) _ nm h
def UO (env':Env):List FL→Env→Env
 | [],e=>e
 | f::l,e=>UO env' l (upd e f.nm (Jf env' f.nm))
structure MkS (W0:World) (n:Nat) (mk:Obj) (mc mi mf mn mx m:Nat) (W:World) (Lc Li Lf Ln:List (ByteArray × Value)):Prop where
 low:Below n W0 W
 ord:n≤mc∧mc<mi∧mi<mf∧mf<mn∧mn<mx∧mx<m
 box:W.heap[m]?=some mk
 c:YJ W mc Lc
 i:YJ W mi Li
 f:YJ W mf Lf
 nd:YJ W mn Ln
 x:YJ W mx []
section
variable {W0:World} {n:Nat} {mk:Obj} {mc mi mf mn mx m:Nat} {W W':World} {Lc Li Lf Ln:List (ByteArray × Value)}
theorem MkS.lt (h:MkS W0 n mk mc mi mf mn mx m W Lc Li Lf Ln):m<W.heap.size:=Zb h.box
theorem MkS.grow (h:MkS W0 n mk mc mi mf mn mx m W Lc Li Lf Ln) (hb:Below W.heap.size W W'):MkS W0 n mk mc mi mf mn mx m W' Lc Li Lf Ln :=
 ⟨h.low.trans (hb.mono (by have:=h.lt;have:=h.ord;omega)),h.ord,(hb.block _ h.lt).trans h.box,h.c.below hb,h.i.below hb,h.f.below hb,h.nd.below hb,h.x.below hb⟩
theorem MkS.putC (h:MkS W0 n mk mc mi mf mn mx m W Lc Li Lf Ln) {o:Obj} {L:List (ByteArray × Value)} (hm:YJ (World.putM W mc o) mc L):MkS W0 n mk mc mi mf mn mx m (World.putM W mc o) L Li Lf Ln:=by
 have hu:Upon mc W (World.putM W mc o):=YI (Upon.refl _ _) _
 have ho:=h.ord
 exact⟨XX h.low oq _,ho,(hu.block _ h.lt oq).trans h.box,hm,h.i.upon hu oq,h.f.upon hu oq,h.nd.upon hu oq,h.x.upon hu oq⟩
theorem MkS.putI (h:MkS W0 n mk mc mi mf mn mx m W Lc Li Lf Ln) {o:Obj} {L:List (ByteArray × Value)} (hm:YJ (World.putM W mi o) mi L):MkS W0 n mk mc mi mf mn mx m (World.putM W mi o) Lc L Lf Ln:=by
 have hu:Upon mi W (World.putM W mi o):=YI (Upon.refl _ _) _
 have ho:=h.ord
 exact⟨XX h.low oq _,ho,(hu.block _ h.lt oq).trans h.box,h.c.upon hu oq,hm,h.f.upon hu oq,h.nd.upon hu oq,h.x.upon hu oq⟩
theorem MkS.putF (h:MkS W0 n mk mc mi mf mn mx m W Lc Li Lf Ln) {o:Obj} {L:List (ByteArray × Value)} (hm:YJ (World.putM W mf o) mf L):MkS W0 n mk mc mi mf mn mx m (World.putM W mf o) Lc Li L Ln:=by
 have hu:Upon mf W (World.putM W mf o):=YI (Upon.refl _ _) _
 have ho:=h.ord
 exact⟨XX h.low oq _,ho,(hu.block _ h.lt oq).trans h.box,h.c.upon hu oq,h.i.upon hu oq,hm,h.nd.upon hu oq,h.x.upon hu oq⟩
theorem MkS.putN (h:MkS W0 n mk mc mi mf mn mx m W Lc Li Lf Ln) {o:Obj} {L:List (ByteArray × Value)} (hm:YJ (World.putM W mn o) mn L):MkS W0 n mk mc mi mf mn mx m (World.putM W mn o) Lc Li Lf L:=by
 have hu:Upon mn W (World.putM W mn o):=YI (Upon.refl _ _) _
 have ho:=h.ord
 exact⟨XX h.low oq _,ho,(hu.block _ h.lt oq).trans h.box,h.c.upon hu oq,h.i.upon hu oq,h.f.upon hu oq,hm,h.x.upon hu oq⟩
end
theorem JP {W0:World} (p:PG) (an ai af ao:Option Addr) (cn ci cf co:Nat) (hp:AP W0 p an ai af ao cn ci cf co) (hok:Jd p) (mc mi mf mn mx:Nat) (m B1 B2 i n:Nat) (hi:i<p.flows.length) (w:World) (Bk:Nat) (hBk:Bk≤w.heap.size)
  (hB:Below W0.heap.size W0 w) (hm:MkB w m p an ai af ao cn ci cf co mc mi mf mn mx) (hb1:Boxed w B1 116 (.pointer (some ⟨m,0,none⟩))) (hb2:Boxed w B2 3 (.int .i64 (i:Int))) :
  Zcn Fence.wide n Tryz.prog 119 #[.pointer (some ⟨B1,0,none⟩),.pointer (some ⟨B2,0,none⟩)] (fun x:VS W0=>x.vs) W0.heap.size Bk (fun xs=>xs.map (·.s)=(Xg p.flows[i].e (dg i)).filter isC)
   (fun pre=>pre.map (·.s) <+: (Xg p.flows[i].e (dg i)).filter isC) (p.flows[i].e.args.sz+1) w:=fun l J Jx W hW hJ hJx hY h0 =>
 zQ p an ai af ao cn ci cf co hp hok mc mi mf mn mx m B1 B2 i n l Bk hi J Jx W (hB.trans (hW.mono hB.size)) (Zm hBk hW.size) ((hW.block m (Zb hm)).trans hm) ((hW.block B1 hb1.lt).trans hb1) ((hW.block B2 hb2.lt).trans hb2) hJ hJx hY h0
end Go.Proofs.YtlhlcdjiafdoeaaGreatDoor.syn
