/-
  Parts of the proof: Nam3.
-/
import Derived.LoopIn
import Derived.Maps.OwnIn
import Derived.Shelf.Abstract
import Derived.Test.YtgigilkpndhddaaGreatDoorQ19
namespace Go.Proofs.YtgigilkpndhddaaGreatDoor.syn
set_option linter.unusedVariables false
set_option linter.unusedSimpArgs false
set_option linter.unnecessarySimpa false
set_option maxRecDepth 100000
set_option maxHeartbeats 16000000
open Go.RowKit Go.Shelf
attribute [local go_sem] ZT
theorem J6 {F:Fence} {nF:Nat} {T K E:TypeId} {z:Value} (M:Xx T K E z) (w:World) {ops:Array Oper} {rest:List Oper} {o:Oper} {a:Act} {Q:Exit→Act→World→Prop}
  (hg:o.guard=none) (m x:Operand) (hop:o.op=Op.lookup T m x false) (mb:Nat) (L:List (ByteArray × Value)) (k:ByteArray) (v:Value)
  (hm:a.eval m=.map (some mb)) (hx:a.eval x=.string k) (h:YG w mb L) (hs:(Y0 k L).getD z=v)
  (hK:wpListIn F nF Tryz.prog ops Q rest (a.put o.dst v) w) :
  wpListIn F nF Tryz.prog ops Q (o::rest) a w:=by
 refine wpListIn_plain hg fun K' hK'=>?_
 have hrun:=XK M h k false
 rw[hs,Z1 (by decide)] at hrun
 unfold Oper.wpIn
 refine⟨by simp[Oper.about,hop],?_⟩
 rw[Oper.semAt_plain F _ _ (by rw[hop];intro c hc';cases hc')]
 simp[execOp,hop,hm,hx,hrun,Result.andThen]
 exact hK' _ _ hK
theorem Jm {F:Fence} {nF:Nat} {T K E:TypeId} {z:Value} (M:Xx T K E z) (w:World) {ops:Array Oper} {rest:List Oper} {o:Oper} {a:Act} {Q:Exit→Act→World→Prop}
  (hg:o.guard=none) (m x v:Operand) (hop:o.op=Op.mapUpdate T m x v) (mb:Nat) (L:List (ByteArray × Value)) (k:ByteArray) (u:Value)
  (hm:a.eval m=.map (some mb)) (hx:a.eval x=.string k) (hv:a.eval v=u) (h:YG w mb L)
  (hK:∀arr clock,YG (World.putM w mb (.map arr clock)) mb (Jc k u L)→wpListIn F nF Tryz.prog ops Q rest (a.put o.dst undef) (World.putM w mb (.map arr clock))) :
  wpListIn F nF Tryz.prog ops Q (o::rest) a w:=by
 refine wpListIn_plain hg fun K' hK'=>?_
 obtain⟨arr,clock,hrun,h1⟩:=Gs M h k u
 unfold Oper.wpIn
 refine⟨by simp[Oper.about,hop],?_⟩
 rw[Oper.semAt_plain F _ _ (by rw[hop];intro c hc';cases hc')]
 simp[execOp,hop,hm,hx,hv,hrun,Result.andThen]
 exact hK' _ _ (hK arr clock h1)
theorem xk {w:World} (mb mb2:Nat) (k n d a:Int) (nm:ByteArray) (ad:Option Addr) (len cap:Nat) (h:CI w mb) (h2:CI w mb2) :
  Calls Tryz.prog 176 #[.agg #[.int .i64 k,.string nm,.int .i64 n,.int .i64 d,.slice ad len cap,.int .i64 a],.map (some mb),.map (some mb2)] w fun x w'=>(∃er:Int,x=.returned (.int .i64 er))∧Below w.heap.size w w':=by
 have HH:=hid (fun(w':World) (hb:Below w.heap.size w w')=>gU (w:=w') mb nm (h.below hb))
 obtain⟨L,hM,hL⟩:=h2
 have HM:=hid hM
 clear h hM
 by_cases hk:k=1
 ·subst hk
  clear hL
  go_enter Tryz.func176,Tryz.ntmps176
  go_wp2_with (go_at_call 175;refine(HH.out _ bq).mono ?_;rintro x w1 ⟨⟨b,rfl⟩,rfl⟩;cases b)
  all_goals (go_ret;exact⟨⟨_,rfl⟩,bq⟩)
 have hk':(k == 1)=false:=ZY.2 hk
 by_cases hk2:k=2
 ·subst hk2
  obtain⟨i,hi⟩:=hL nm
  cases hg:Y0 nm L with
  | none =>
   have HG:=hid hg
   clear hk hL hi hg
   go_enter Tryz.func176,Tryz.ntmps176
   go_wp2_with (at_lookup;refine Y3 zg _ rfl _ _ rfl mb2 L nm rfl rfl (HM.out.below bq) HG.out ?_)
   go_ret
   exact⟨⟨_,rfl⟩,bq⟩
  | some v =>
   rw[hg] at hi
   have hi:v=.int .i64 i:=hi
   subst hi
   have HG:=hid hg
   clear hk hL hg
   go_enter Tryz.func176,Tryz.ntmps176
   go_wp2_with (at_lookup;refine Xz zg _ rfl _ _ rfl mb2 L nm _ rfl rfl (HM.out.below bq) HG.out ?_)
   all_goals (go_ret;exact⟨⟨_,rfl⟩,bq⟩)
 have hk2':(k == 2)=false:=ZY.2 hk2
 clear hk hk2 hL
 go_enter Tryz.func176,Tryz.ntmps176
 go_wp2
 go_ret
 exact⟨⟨0,rfl⟩,bq⟩
def eN (W0:World) (mb len:Nat) (v:Value) (wr:World):Prop:=∃i:Nat,v=.int .i64 (i:Int)∧i≤len∧CI wr mb∧Upon mb W0 wr
theorem zm {w:World} (nodes:List ND) (ins:List IN) (flows:List FL) (outs:List OU) (an ai af ao:Option Addr) (cn ci cf co:Nat) (hp:AP w ⟨nodes,ins,flows,outs⟩ an ai af ao cn ci cf co) :
  Calls Tryz.prog 159 #[pv ⟨nodes,ins,flows,outs⟩ an ai af ao cn ci cf co] w fun x w'=>X4 x∧Below w.heap.size w w':=by
 have HI:=hid hp.ins
 have HF:=hid hp.flows
 have HN:=hid hp.nodes
 have hcap:=hp.caps
 simp only at hcap
 have hil:ins.length≤9223372036854775807:=oq
 have hfl:flows.length≤9223372036854775807:=oq
 have hnl:nodes.length≤9223372036854775807:=oq
 have HC:=hid hcap.2.2.1
 clear hp hcap
 unfold pv X4
 simp only
 have hmk:=fun w=>run_makeMap (P:=Tryz.prog) 266 w
 have hmk2:=fun w=>run_makeMap (P:=Tryz.prog) 186 w
 have HWI:=hid (fun w=>XW (w:=w) af flows.length cf)
 refine(Zt (n:=6)).1 ?_
 refine callsIn_of_wp_marks Tryz.func159 rfl trivial ?_ rfl
 simp only[Tryz.ntmps159,ZI,Zp,Zw,Nat.reduceAdd,Nat.reduceSub,ZF,ZE,ZL,ZJ,ZM,ZC]
 gi_wp2_with fail
 have bP:XS (((((((w.alloc (.cells #[.slice an nodes.length cn,.slice ai ins.length ci,.slice af flows.length cf,.slice ao outs.length co] 27)).alloc (.cells #[.int .i64 0] 3)).alloc (.cells #[.int .i64 0] 38)).alloc (.map #[] 0)).alloc (.map #[] 0)).alloc (.cells #[.map (some (w.heap.size+1+1+1))] 266)).alloc (.cells #[.map (some (w.heap.size+1+1+1+1))] 186)) w.heap.size ⟨nodes,ins,flows,outs⟩ an ai af ao cn ci cf co:=((Za _ _ _ oq).trans ((Za _ _ _ oq).trans ((Za _ _ _ oq).trans ((Za _ _ _ oq).trans ((Za _ _ _ oq).trans ((Za _ _ _ oq).trans (Yp w _)))))))
 have bA:Boxed (((((((w.alloc (.cells #[.slice an nodes.length cn,.slice ai ins.length ci,.slice af flows.length cf,.slice ao outs.length co] 27)).alloc (.cells #[.int .i64 0] 3)).alloc (.cells #[.int .i64 0] 38)).alloc (.map #[] 0)).alloc (.map #[] 0)).alloc (.cells #[.map (some (w.heap.size+1+1+1))] 266)).alloc (.cells #[.map (some (w.heap.size+1+1+1+1))] 186)) (w.heap.size+1) 3 (.int .i64 0):=by
  have h:=((((((Boxed.new (w.alloc (.cells #[.slice an nodes.length cn,.slice ai ins.length ci,.slice af flows.length cf,.slice ao outs.length co] 27)) 3 (.int .i64 0)).alloc (.cells #[.int .i64 0] 38)).alloc (.map #[] 0)).alloc (.map #[] 0)).alloc (.cells #[.map (some (w.heap.size+1+1+1))] 266)).alloc (.cells #[.map (some (w.heap.size+1+1+1+1))] 186))
  simp only[Zu] at h
  exact h
 have bE:Boxed (((((((w.alloc (.cells #[.slice an nodes.length cn,.slice ai ins.length ci,.slice af flows.length cf,.slice ao outs.length co] 27)).alloc (.cells #[.int .i64 0] 3)).alloc (.cells #[.int .i64 0] 38)).alloc (.map #[] 0)).alloc (.map #[] 0)).alloc (.cells #[.map (some (w.heap.size+1+1+1))] 266)).alloc (.cells #[.map (some (w.heap.size+1+1+1+1))] 186)) (w.heap.size+1+1) 38 (.int .i64 0):=by
  have h:=(((((Boxed.new ((w.alloc (.cells #[.slice an nodes.length cn,.slice ai ins.length ci,.slice af flows.length cf,.slice ao outs.length co] 27)).alloc (.cells #[.int .i64 0] 3)) 38 (.int .i64 0)).alloc (.map #[] 0)).alloc (.map #[] 0)).alloc (.cells #[.map (some (w.heap.size+1+1+1))] 266)).alloc (.cells #[.map (some (w.heap.size+1+1+1+1))] 186))
  simp only[Zu] at h
  exact h
 have hC0:CI (((((((w.alloc (.cells #[.slice an nodes.length cn,.slice ai ins.length ci,.slice af flows.length cf,.slice ao outs.length co] 27)).alloc (.cells #[.int .i64 0] 3)).alloc (.cells #[.int .i64 0] 38)).alloc (.map #[] 0)).alloc (.map #[] 0)).alloc (.cells #[.map (some (w.heap.size+1+1+1))] 266)).alloc (.cells #[.map (some (w.heap.size+1+1+1+1))] 186)) (w.heap.size+1+1+1):=by
  have h:=(CI.new (((w.alloc (.cells #[.slice an nodes.length cn,.slice ai ins.length ci,.slice af flows.length cf,.slice ao outs.length co] 27)).alloc (.cells #[.int .i64 0] 3)).alloc (.cells #[.int .i64 0] 38))).below ((((Zg _ _).alloc (Zc _) (.map #[] 0)).alloc oq (.cells #[.map (some (w.heap.size+1+1+1))] 266)).alloc oq (.cells #[.map (some (w.heap.size+1+1+1+1))] 186))
  simp only[Zu] at h
  exact h
 have hD0:CI (((((((w.alloc (.cells #[.slice an nodes.length cn,.slice ai ins.length ci,.slice af flows.length cf,.slice ao outs.length co] 27)).alloc (.cells #[.int .i64 0] 3)).alloc (.cells #[.int .i64 0] 38)).alloc (.map #[] 0)).alloc (.map #[] 0)).alloc (.cells #[.map (some (w.heap.size+1+1+1))] 266)).alloc (.cells #[.map (some (w.heap.size+1+1+1+1))] 186)) (w.heap.size+1+1+1+1):=by
  have h:=(CI.new ((((w.alloc (.cells #[.slice an nodes.length cn,.slice ai ins.length ci,.slice af flows.length cf,.slice ao outs.length co] 27)).alloc (.cells #[.int .i64 0] 3)).alloc (.cells #[.int .i64 0] 38)).alloc (.map #[] 0))).below (((Zg _ _).alloc (Zc _) (.cells #[.map (some (w.heap.size+1+1+1))] 266)).alloc oq (.cells #[.map (some (w.heap.size+1+1+1+1))] 186))
  simp only[Zu] at h
  exact h
 have bM:Boxed (((((((w.alloc (.cells #[.slice an nodes.length cn,.slice ai ins.length ci,.slice af flows.length cf,.slice ao outs.length co] 27)).alloc (.cells #[.int .i64 0] 3)).alloc (.cells #[.int .i64 0] 38)).alloc (.map #[] 0)).alloc (.map #[] 0)).alloc (.cells #[.map (some (w.heap.size+1+1+1))] 266)).alloc (.cells #[.map (some (w.heap.size+1+1+1+1))] 186)) (w.heap.size+1+1+1+1+1) 266 (.map (some (w.heap.size+1+1+1))):=by
  have h:=((Boxed.new (((((w.alloc (.cells #[.slice an nodes.length cn,.slice ai ins.length ci,.slice af flows.length cf,.slice ao outs.length co] 27)).alloc (.cells #[.int .i64 0] 3)).alloc (.cells #[.int .i64 0] 38)).alloc (.map #[] 0)).alloc (.map #[] 0)) 266 (.map (some (w.heap.size+1+1+1)))).alloc (.cells #[.map (some (w.heap.size+1+1+1+1))] 186))
  simp only[Zu] at h
  exact h
 have bN:Boxed (((((((w.alloc (.cells #[.slice an nodes.length cn,.slice ai ins.length ci,.slice af flows.length cf,.slice ao outs.length co] 27)).alloc (.cells #[.int .i64 0] 3)).alloc (.cells #[.int .i64 0] 38)).alloc (.map #[] 0)).alloc (.map #[] 0)).alloc (.cells #[.map (some (w.heap.size+1+1+1))] 266)).alloc (.cells #[.map (some (w.heap.size+1+1+1+1))] 186)) (w.heap.size+1+1+1+1+1+1) 186 (.map (some (w.heap.size+1+1+1+1))):=by
  have h:=(Boxed.new ((((((w.alloc (.cells #[.slice an nodes.length cn,.slice ai ins.length ci,.slice af flows.length cf,.slice ao outs.length co] 27)).alloc (.cells #[.int .i64 0] 3)).alloc (.cells #[.int .i64 0] 38)).alloc (.map #[] 0)).alloc (.map #[] 0)).alloc (.cells #[.map (some (w.heap.size+1+1+1))] 266)) 186 (.map (some (w.heap.size+1+1+1+1))))
  simp only[Zu] at h
  exact h
 have hB0:Below w.heap.size w (((((((w.alloc (.cells #[.slice an nodes.length cn,.slice ai ins.length ci,.slice af flows.length cf,.slice ao outs.length co] 27)).alloc (.cells #[.int .i64 0] 3)).alloc (.cells #[.int .i64 0] 38)).alloc (.map #[] 0)).alloc (.map #[] 0)).alloc (.cells #[.map (some (w.heap.size+1+1+1))] 266)).alloc (.cells #[.map (some (w.heap.size+1+1+1+1))] 186)):=bq
 have hsz:(((((((w.alloc (.cells #[.slice an nodes.length cn,.slice ai ins.length ci,.slice af flows.length cf,.slice ao outs.length co] 27)).alloc (.cells #[.int .i64 0] 3)).alloc (.cells #[.int .i64 0] 38)).alloc (.map #[] 0)).alloc (.map #[] 0)).alloc (.cells #[.map (some (w.heap.size+1+1+1))] 266)).alloc (.cells #[.map (some (w.heap.size+1+1+1+1))] 186)).heap.size=w.heap.size+7:=by simp
 obtain⟨W0,hW0⟩:∃W0,(((((((w.alloc (.cells #[.slice an nodes.length cn,.slice ai ins.length ci,.slice af flows.length cf,.slice ao outs.length co] 27)).alloc (.cells #[.int .i64 0] 3)).alloc (.cells #[.int .i64 0] 38)).alloc (.map #[] 0)).alloc (.map #[] 0)).alloc (.cells #[.map (some (w.heap.size+1+1+1))] 266)).alloc (.cells #[.map (some (w.heap.size+1+1+1+1))] 186))=W0:=⟨_,rfl⟩
 rw[hW0] at bP bA bE bM bN hB0 hsz hC0 hD0 ⊢
 clear hW0
 have BP:=hid bP
 have BA:=hid bA
 have BE:=hid bE
 have BM:=hid bM
 have BN:=hid bN
 have HB0:=hid hB0
 have HD0:=hid hD0
 clear bP bA bE bM bN hB0 hD0
 gi_loopw [19] (fun v wr=>Hid (eN W0 (w.heap.size+1+1+1) ins.length v wr)) (fun i _=>ins.length-(intOf i).toNat)
 case atStart=>exact⟨0,rfl,Zk _,hC0,Upon.refl _ _⟩
 clear hC0
 obtain⟨i,rfl,hi,hci,hup⟩:=hrel.out
 clear hrel
 have HUP:=hid hup
 have hszr:=hup.size
 have hbel:=HB0.out.trans (hup.below (B:=w.heap.size) oq oq)
 have HBEL:=hid hbel
 have bM1:Boxed wr (w.heap.size+1+1+1+1+1) 266 (.map (some (w.heap.size+1+1+1))):=(hup.block _ oq oq).trans BM.out
 have cM:=bM1.cell
 have l5:w.heap.size+1+1+1+1+1<wr.heap.size:=oq
 have l0:w.heap.size<wr.heap.size:=oq
 have hpb:=(hup.block _ oq oq).trans BP.out
 unfold XS at hpb
 simp only at hpb
 obtain⟨⟨x0,x1,x2,x3⟩,xf⟩:=Yq hpb
 have HCI:=hid hci
 obtain⟨L,hM,hL⟩:=hci
 have HM:=hid hM
 have HL:=hid hL
 clear hup hM hL hpb
 by_cases hlt:i<ins.length
 ·skip
  obtain⟨bb,oo,rfl,hbb0,hin0⟩:=HI.out.at hlt
  have hin:=KJ w wr bb _ _ hbel hbb0 hin0
  have hbb:bb<wr.heap.size:=oq
  obtain⟨x,hx⟩:∃x,ins[i]=x:=⟨_,rfl⟩
  rw[hx] at hin
  obtain⟨nm,per,ph,fa⟩:=x
  obtain⟨y0,y1,y2,y3,hfn⟩:=hin
  simp only at y0 y1 y2 y3
  obtain⟨iv,hiv⟩:=HL.out nm
  have HG:=hid hiv
  have HPT:=hid (fun j=>Kz HL.out nm j)
  have hie:(i:Int)<(ins.length:Int):=oq
  clear hbel hin0 hx hbb0 hiv
  gi_wp2_with (first|(gi_at_lookup;refine J6 XU _ rfl _ _ rfl (w.heap.size+1+1+1) L nm _ rfl rfl (HM.out.below bq) HG.out ?_)|(gi_at_mapUpdate;refine Jm XU _ rfl _ _ _ rfl (w.heap.size+1+1+1) L nm _ rfl rfl rfl (HM.out.below bq) ?_;intro arr clock hm2))
  refine⟨⟨i+1,by go_num,oq,⟨_,hm2,HPT.out _⟩,HUP.out.trans (YF ((Upon.refl _ _).alloc _) _)⟩,by simp[intOf];omega⟩
 have hie':decide ((i:Int)<(ins.length:Int))=false:=ZZ oq
 clear hbel
 obtain⟨i1,rfl⟩:∃i1:Nat,i1=i:=⟨_,rfl⟩
 gi_wp2_with fail
 gi_loopw [32] (fun v wr=>Hid (eN W0 (w.heap.size+1+1+1) flows.length v wr)) (fun i _=>flows.length-(intOf i).toNat)
 case atStart=>exact⟨0,rfl,Zk _,HCI.out,HUP.out⟩
 clear HUP HBEL hszr bM1 cM l5 l0 x0 x1 x2 x3 xf HM HL hie' hlt HCI
 obtain⟨i,rfl,hi,hci,hup⟩:=hrel.out
 clear hrel
 have HUP:=hid hup
 have hszr:=hup.size
 have hbel:=HB0.out.trans (hup.below (B:=w.heap.size) oq oq)
 have HBEL:=hid hbel
 have bM1:Boxed wr (w.heap.size+1+1+1+1+1) 266 (.map (some (w.heap.size+1+1+1))):=(hup.block _ oq oq).trans BM.out
 have cM:=bM1.cell
 have l5:w.heap.size+1+1+1+1+1<wr.heap.size:=oq
 have l0:w.heap.size<wr.heap.size:=oq
 have hpb:=(hup.block _ oq oq).trans BP.out
 unfold XS at hpb
 simp only at hpb
 obtain⟨⟨x0,x1,x2,x3⟩,xf⟩:=Yq hpb
 have HCI:=hid hci
 obtain⟨L,hM,hL⟩:=hci
 have HM:=hid hM
 have HL:=hid hL
 clear hup hM hL hpb
 by_cases hlt:i<flows.length
 ·skip
  obtain⟨bb,oo,rfl,hbb0,hin0⟩:=HF.out.at hlt
  have hin:=JU w wr bb _ _ hbel hbb0 hin0
  have hbb:bb<wr.heap.size:=oq
  obtain⟨x,hx⟩:∃x,flows[i]=x:=⟨_,rfl⟩
  rw[hx] at hin
  obtain⟨nm,⟨k1,nm1,n1,d1,args1,a1⟩,fa⟩:=x
  obtain⟨ad,cap,y0,y1,y2,y3,y4,y5,y6,y7,hae,hfn⟩:=hin.cells
  obtain⟨iv,hiv⟩:=HL.out nm
  have HG:=hid hiv
  have HPT:=hid (fun j=>Kz HL.out nm j)
  have hie:(i:Int)<(flows.length:Int):=oq
  clear hbel hin0 hx hbb0 hiv
  gi_wp2_with (first|(gi_at_lookup;refine J6 XU _ rfl _ _ rfl (w.heap.size+1+1+1) L nm _ rfl rfl (HM.out.below bq) HG.out ?_)|(gi_at_mapUpdate;refine Jm XU _ rfl _ _ _ rfl (w.heap.size+1+1+1) L nm _ rfl rfl rfl (HM.out.below bq) ?_;intro arr clock hm2))
  refine⟨⟨i+1,by go_num,oq,⟨_,hm2,HPT.out _⟩,HUP.out.trans (YF ((Upon.refl _ _).alloc _) _)⟩,by simp[intOf];omega⟩
 have hie':decide ((i:Int)<(flows.length:Int))=false:=ZZ oq
 have hD2:=hid (HD0.out.upon HUP.out oq)
 have bP2:=hid (show XS wr w.heap.size ⟨nodes,ins,flows,outs⟩ an ai af ao cn ci cf co from(HUP.out.block _ oq oq).trans BP.out)
 have bN2:=hid (show Boxed wr (w.heap.size+1+1+1+1+1+1) 186 (.map (some (w.heap.size+1+1+1+1))) from(HUP.out.block _ oq oq).trans BN.out)
 have bM2:=hid bM1
 have bA2:=hid (show Boxed wr (w.heap.size+1) 3 (.int .i64 0) from(HUP.out.block _ oq oq).trans BA.out)
 have bE2:=hid (show Boxed wr (w.heap.size+1+1) 38 (.int .i64 0) from(HUP.out.block _ oq oq).trans BE.out)
 clear hbel
 obtain⟨i2,rfl⟩:∃i2:Nat,i2=i:=⟨_,rfl⟩
 gi_wp2_with fail
 obtain⟨W2,rfl⟩:∃W2:World,W2=wr:=⟨_,rfl⟩
 gi_loopw [45] (fun v wr=>Hid (eN W2 (w.heap.size+1+1+1+1) nodes.length v wr)) (fun i _=>nodes.length-(intOf i).toNat)
 case atStart=>exact⟨0,rfl,Zk _,hD2.out,Upon.refl _ _⟩
 clear HUP bM1 cM x0 x1 x2 x3 xf HM HL hie' hlt hD2
 obtain⟨i,rfl,hi,hci,hup⟩:=hrel.out
 clear hrel
 have HUP:=hid hup
 have hszr2:=hup.size
 have hbel:=HBEL.out.trans (hup.below (B:=w.heap.size) oq oq)
 have HBEL2:=hid hbel
 have bM1:Boxed wr (w.heap.size+1+1+1+1+1+1) 186 (.map (some (w.heap.size+1+1+1+1))):=(hup.block _ oq oq).trans bN2.out
 have cM:=bM1.cell
 have l5:w.heap.size+1+1+1+1+1+1<wr.heap.size:=oq
 have l0:w.heap.size<wr.heap.size:=oq
 have hpb:=(hup.block _ oq oq).trans bP2.out
 unfold XS at hpb
 simp only at hpb
 obtain⟨⟨x0,x1,x2,x3⟩,xf⟩:=Yq hpb
 have HCJ:=hid hci
 obtain⟨L,hM,hL⟩:=hci
 have HM:=hid hM
 have HL:=hid hL
 clear hup hM hL hpb
 by_cases hlt:i<nodes.length
 ·skip
  obtain⟨bb,oo,rfl,hbb0,hin0⟩:=HN.out.at hlt
  have hin:=JI w wr bb _ _ hbel hbb0 hin0
  have hbb:bb<wr.heap.size:=oq
  obtain⟨x,hx⟩:∃x,nodes[i]=x:=⟨_,rfl⟩
  rw[hx] at hin
  obtain⟨nm,ps,bud,⟨k1,nm1,n1,d1,args1,a1⟩,fa⟩:=x
  obtain⟨pa,pc,ad,cap,y0,y1,y2,y3,y4,y5,y6,y7,y8,y9,hae,hps,hfn⟩:=hin.cells
  obtain⟨iv,hiv⟩:=HL.out nm
  have HG:=hid hiv
  have HPT:=hid (fun j=>Kz HL.out nm j)
  have hie:(i:Int)<(nodes.length:Int):=oq
  clear hbel hin0 hx hbb0 hiv
  gi_wp2_with ((gi_at_mapUpdate;refine Jm zg _ rfl _ _ _ rfl (w.heap.size+1+1+1+1) L nm _ rfl rfl rfl (HM.out.below bq) ?_;intro arr clock hm2))
  refine⟨⟨i+1,by go_num,oq,⟨_,hm2,HPT.out _⟩,HUP.out.trans (YF ((Upon.refl _ _).alloc _) _)⟩,by simp[intOf];omega⟩
 have hie':decide ((i:Int)<(nodes.length:Int))=false:=ZZ oq
 have hC3:=hid (HCI.out.upon HUP.out oq)
 have hA3:Boxed wr (w.heap.size+1) 3 (.int .i64 0):=(HUP.out.block _ oq oq).trans bA2.out
 have hE3:Boxed wr (w.heap.size+1+1) 38 (.int .i64 0):=(HUP.out.block _ oq oq).trans bE2.out
 have hM3:Boxed wr (w.heap.size+1+1+1+1+1) 266 (.map (some (w.heap.size+1+1+1))):=(HUP.out.block _ oq oq).trans bM2.out
 have hN3:=bM1
 clear hbel
 gi_wp2_with (refine⟨trivial,?_⟩;gi_at_call 90;refine(Zt.2 (HWI.out _)).mono ?_;rintro e w' ⟨rfl,rfl⟩)
 have bS:=Boxed.new wr 24 (.slice af flows.length cf)
 have hB1:Below wr.heap.size wr (wr.alloc (.cells #[.slice af flows.length cf] 24)):=(Zg _ _).alloc (Zc _) _
 have hsz1:(wr.alloc (.cells #[.slice af flows.length cf] 24)).heap.size=wr.heap.size+1:=by simp
 have hC4:=hC3.out
 have hD4:=HCJ.out
 obtain⟨W1,hW1⟩:∃W1,wr.alloc (.cells #[.slice af flows.length cf] 24)=W1:=⟨_,rfl⟩
 rw[hW1] at bS hB1 hsz1 ⊢
 clear hW1
 have hw1:Below w.heap.size w W1:=HBEL2.out.trans (hB1.mono oq)
 have hA5:Boxed W1 (w.heap.size+1) 3 (.int .i64 0):=(hB1.block _ oq).trans hA3
 have hE5:Boxed W1 (w.heap.size+1+1) 38 (.int .i64 0):=(hB1.block _ oq).trans hE3
 have HX:=hid (show ∀W,Below W1.heap.size W1 W→Boxed W (w.heap.size+1+1+1+1+1) 266 (.map (some (w.heap.size+1+1+1)))∧Boxed W (w.heap.size+1+1+1+1+1+1) 186 (.map (some (w.heap.size+1+1+1+1)))∧Boxed W (w.heap.size+1) 3 (.int .i64 0)∧Boxed W (w.heap.size+1+1) 38 (.int .i64 0)∧CI W (w.heap.size+1+1+1)∧CI W (w.heap.size+1+1+1+1)∧Below w.heap.size w W from by
  intro W hW
  have h1:Below wr.heap.size wr W:=hB1.trans (hW.mono oq)
  exact⟨(h1.block _ oq).trans hM3,(h1.block _ oq).trans hN3,(h1.block _ oq).trans hA3,(h1.block _ oq).trans hE3,hC4.below h1,hD4.below h1,HBEL2.out.trans (h1.mono oq)⟩)
 have HWL:=hid hw1
 have hszw:w.heap.size≤W1.heap.size:=oq
 clear hN3 hA3 hE3 hM3 hC3 hC4 hD4 hB1 HM HL HCI HCJ bM1 cM
 refine wpIn_rangeFunc_ownH (encs:=fun x:VX w=>#[.agg #[.int .i64 x.e.k,.string x.e.nm,.int .i64 x.e.n,.int .i64 x.e.d,.slice x.ad x.e.args.len x.cap,.int .i64 x.e.a]]) rfl oq (gf:=125) (lb:=#[.pointer (some ⟨wr.heap.size,0,none⟩)]) rfl trivial (enters_of Tryz.func125 kq rfl)
  (Uo (W0:=w) Fence.wide rfl trivial trivial rfl _ wr.heap.size flows af cf HF.out HC.out.1 HC.out.2 W1 oq HWL.out bS.cell) (fun h k=>h.trans k) (fun W l o o' hl h hc _=>KC.putObj W l o o' oq h hc) (Zg _ _) (fun _=>rfl)
  (fun pre W=>Below W1.heap.size W1 W)
  (fun c pre W=>∃a er,((Boxed W (w.heap.size+1) 3 (.int .i64 a)∧Boxed W (w.heap.size+1+1) 38 (.int .i64 er))∧Below w.heap.size w W)∧c=.ret)
  (ownFrom_below (Zc _) (Zc _))
  (fun c s X Y row hs hg hrw=>by
   obtain⟨a,er,⟨⟨h1,h2⟩,h3⟩,h4⟩:=hs
   exact⟨a,er,⟨⟨boxed_own _ _ (fun(_:Unit)=>Value.int .i64 a) () X Y row h1 hg (fun r e=>(hrw r e).2),boxed_own _ _ (fun(_:Unit)=>Value.int .i64 er) () X Y row h2 hg (fun r e=>(hrw r e).2)⟩,ownFrom_below (β:=Unit) (Zc _) hszw () X Y row h3 hg hrw⟩,h4⟩)
  (Zg _ _)
  (fun x a' W=>∃Bx,W1.heap.size≤Bx∧W.heap[Bx]?=some (.cells #[.int .i64 x.e.k,.string x.e.nm,.int .i64 x.e.n,.int .i64 x.e.d,.slice x.ad x.e.args.len x.cap,.int .i64 x.e.a] 88 (0,0)) ∧
   a'={ tmps:=#[.agg #[.slice an nodes.length cn,.slice ai ins.length ci,.slice af flows.length cf,.slice ao outs.length co],.pointer (some ⟨w.heap.size,0,none⟩),.pointer (some ⟨w.heap.size+1,0,none⟩),.pointer (some ⟨w.heap.size+1+1,0,none⟩),.pointer (some ⟨w.heap.size+1+1+1+1+1,0,none⟩),.pointer (some ⟨w.heap.size+1+1+1+1+1+1,0,none⟩),undef,u7,undef,u9,undef,u11,.pointer (some ⟨Bx,0,none⟩),undef,.map (some (w.heap.size+1+1+1)),.map (some (w.heap.size+1+1+1+1)),.pointer (some ⟨w.heap.size,1,none⟩),.slice ai ins.length ci,.int .i64 (ins.length:Int),.int .i64 (i1:Int),.bool false,u21,u22,u23,u24,u25,u26,u27,u28,.pointer (some ⟨w.heap.size,2,none⟩),.slice af flows.length cf,.int .i64 (flows.length:Int),.int .i64 (i2:Int),.bool false,u34,u35,u36,u37,u38,u39,u40,u41,.pointer (some ⟨w.heap.size,0,none⟩),.slice an nodes.length cn,.int .i64 (nodes.length:Int),.int .i64 (i:Int),.bool false,u47,u48,u49,u50,u51,u52,u53,u54,u55,.pointer (some ⟨w.heap.size,2,none⟩),.slice af flows.length cf,.func (.func 125) #[] #[.pointer (some ⟨wr.heap.size,0,none⟩)],.agg #[.int .i64 x.e.k,.string x.e.nm,.int .i64 x.e.n,.int .i64 x.e.d,.slice x.ad x.e.args.len x.cap,.int .i64 x.e.a],undef,undef,undef,undef,undef,undef,undef,undef,undef],defers:=[] })
  (fun x a' _ X Y row hs hg hrw=>by
   obtain⟨Bx,h1,h2,h3⟩:=hs
   refine⟨Bx,h1,(hg.block Bx (Zq.1 h2).1 (fun e=>?_)).trans h2,h3⟩
   obtain⟨_,o,ho,hc⟩:=hrw Bx e.symm
   rw[h2] at ho;cases ho;cases hc)
  ?assign ?body ?done ?stop
 case assign =>
  rintro l pre x W K hBW hK
  gi_wp2
  exact hK _ _ ((KeepsOthers.alloc _ _).from _) ((KC.refl _ W).alloc (Zm hszw hBW.size) _) (hBW.alloc hBW.size _) ⟨W.heap.size,hBW.size,Yp W _,rfl⟩
 case body =>
  rintro l pre ⟨⟨k1,nm1,n1,d1,args1,a1⟩,ad1,cap1,hok⟩ a' W hl ⟨r,hr⟩ hBW ⟨Bx,hBx,hxb,rfl⟩ hlt
  simp only at hxb
  obtain⟨bM2,bN2,bA2,bE2,hcm2,hm2,hbw2⟩:=HX.out W hBW
  have cM:=bM2.cell
  have cN:=bN2.cell
  obtain⟨⟨x0,x1,x2,x3,x4,x5⟩,xf⟩:=YZ hxb
  have hsW:=hBW.size
  have HCC:=hid (xk (w:=W) (w.heap.size+1+1+1) (w.heap.size+1+1+1+1) k1 n1 d1 a1 nm1 ad1 args1.len cap1 hcm2 hm2)
  have HBW:=hid hBW
  clear hcm2 hm2 hBW
  gi_wp2_with (refine⟨trivial,?_⟩;gi_at_call 176;refine(CallsIn.inRound l (Zt.2 HCC.out)).mono ?_;rintro e w2 ⟨⟨er,rfl⟩,hb2⟩;have bA3:Boxed w2 (w.heap.size+1) 3 (.int .i64 0):=(hb2.block _ bA2.lt).trans bA2;have bE3:Boxed w2 (w.heap.size+1+1) 38 (.int .i64 0):=(hb2.block _ bE2.lt).trans bE2;have cA3:=bA3.cell;have fA3:=bA3.frozen;have cE3:=bE3.cell;have fE3:=bE3.frozen;have bX3:=(hb2.block _ (Zb hxb)).trans hxb;obtain⟨⟨v0,v1,v2,v3,v4,v5⟩,vf⟩:=YZ bX3;clear x0 x1 x2 x3 x4 x5 xf)
  ·exact⟨(show KeepsFrom W1.heap.size W w2 from ⟨hb2.size,fun k o _ hk _=>(hb2.block k (Zb hk)).trans hk⟩).trans (((KeepsOthers.setCell _ _ _).trans (KeepsOthers.setCell _ _ _)).from _),a1,er,⟨⟨(bA3.set _).other oq _,(bE3.other oq _).set _⟩,((hbw2.trans (hb2.mono oq)).setCell (p:=⟨w.heap.size+1,0,none⟩) (by simp) _).setCell (p:=⟨w.heap.size+1+1,0,none⟩) (by simp;omega) _⟩,rfl⟩
  exact⟨⟨hb2.size,fun k o _ hk _=>(hb2.block k (Zb hk)).trans hk⟩,(KC.refl _ W).of_below hb2 (Zm hszw hsW),HBW.out.trans (hb2.mono hsW)⟩
 case done =>
  rintro D zs W hD hzs hBW hK
  obtain⟨bM2,bN2,bA1,bE1,hcm2,hm2,hB1⟩:=HX.out W hBW
  have cA:=bA1.cell
  have fA:=bA1.frozen
  have cE:=bE1.cell
  have fE:=bE1.frozen
  gi_wp2
  have hK2:((W.setCell ⟨w.heap.size+1,0,none⟩ (.int .i64 0)).setCell ⟨w.heap.size+1+1,0,none⟩ (.int .i64 0)).heap[D]?=some (.deferred (some [])):=((KeepsOthers.setCell _ _ _).trans (KeepsOthers.setCell _ _ _)).same D _ hK rfl
  refine⟨by simp,.inl ⟨_,_,rfl,run_takeDeferred hK2,?_⟩⟩
  have bA3:=(((bA1.set (.int .i64 0)).other (show w.heap.size+1≠w.heap.size+1+1 by omega) (.int .i64 0)).kept (grownBy_putObj' _ D (.deferred none)) (by intro e;injection e with e;omega)).cell
  have bE3:=(((bE1.other (show w.heap.size+1+1≠w.heap.size+1 by omega) (.int .i64 0)).set (.int .i64 0)).kept (grownBy_putObj' _ D (.deferred none)) (by intro e;injection e with e;omega)).cell
  refine⟨.tuple #[.int .i64 0,.int .i64 0],?_,?_,?_⟩
  ·simp only[results,Tryz.results159];go_simp
  ·exact⟨0,0,rfl⟩
  exact((hB1.setCell (p:=⟨w.heap.size+1,0,none⟩) (by simp) _).setCell (p:=⟨w.heap.size+1+1,0,none⟩) (by simp;omega) _).trans (KC.putObj (n₀:=w.heap.size) _ D _ _ oq hK2 rfl).below
 rintro D c pre W hD hpre ⟨a,er,⟨⟨bA1,bE1⟩,hB1⟩,rfl⟩ hK
 have cA:=bA1.cell
 have fA:=bA1.frozen
 have cE:=bE1.cell
 have fE:=bE1.frozen
 gi_wp2
 refine⟨by simp,.inl ⟨_,_,rfl,run_takeDeferred hK,?_⟩⟩
 have bA3:=(bA1.kept (grownBy_putObj' _ D (.deferred none)) (by intro e;injection e with e;omega)).cell
 have bE3:=(bE1.kept (grownBy_putObj' _ D (.deferred none)) (by intro e;injection e with e;omega)).cell
 refine⟨.tuple #[.int .i64 a,.int .i64 er],?_,?_,?_⟩
 ·simp only[results,Tryz.results159];go_simp
 ·exact⟨a,er,rfl⟩
 exact hB1.trans (KC.putObj (n₀:=w.heap.size) _ D _ _ oq hK rfl).below
end Go.Proofs.YtgigilkpndhddaaGreatDoor.syn
