/-
  Parts of the proof: Chk6, Chk7, Chk8, Chk9, Chk10.
-/
import Derived.Test.YtpjficjlfibibaaGreatDoorQ15
import Derived.Test.YtpjficjlfibibaaGreatDoorQ05
import Derived.RangeFuncNested
import Derived.RangeFuncBound
import Derived.RangeFuncCalls
import Derived.RangeFuncLeaves
import Derived.OwnWalkIn
import Derived.TacticsInMore
import Derived.LoopNIn
import Derived.LoopIn
import Derived.Test.YtpjficjlfibibaaGreatDoorQ08
import Derived.Shelf.Abstract
namespace Go.Proofs.YtpjficjlfibibaaGreatDoor.syn
open Go.RowKit
set_option linter.unusedVariables false
set_option linter.unusedSimpArgs false
theorem cells1 {w:World} {b:Nat} {v0:Value} {t:TypeId} (h:w.heap[b]? = some (.cells #[v0] t (0,0))) :
  w.cell? ⟨b,0,none⟩ = some v0 ∧ ∀ o,w.frozen? ⟨b,o,none⟩ = false:=by
 refine ⟨?_,?_⟩
 all_goals first | (intro o;simp [World.frozen?,h]) | simp [World.cell?,h]
theorem set1 {w:World} {r:Nat} {a u:Value} {t:TypeId} (h:w.heap[r]? = some (.cells #[a] t (0,0))) :
  (w.setCell ⟨r,0,none⟩ u).heap[r]? = some (.cells #[u] t (0,0)):=by
 have hlt:=lt_of_block h
 have h':w.heap[r] = .cells #[a] t (0,0):=by simpa [Array.getElem?_eq_getElem hlt] using h
 show (w.heap.modify r _)[r]? = _
 rw [Array.getElem?_eq_getElem (by simpa using hlt),Array.getElem_modify_self,h']
 rfl
def RoomIs (w:World) (rb:Nat) (r:Int):Prop:=w.heap[rb]? = some (.cells #[.int .i64 r] 3 (0,0))
set_option maxHeartbeats 1000000 in
theorem take_any {w:World} (k n d a:Int) (nm:ByteArray) (v:Value) (rb:Nat) (r:Int) (h:RoomIs w rb r) (h1:1 ≤ r) (h2:r ≤ 1000000) :
  Calls Tryz.prog 86 #[.agg #[.int .i64 k,.string nm,.int .i64 n,.int .i64 d,v,.int .i64 a],.pointer (some ⟨rb,0,none⟩)] w fun x w' =>
   x = .returned (.bool true) ∧ RoomIs w' rb (r - 1) ∧ Upon rb w w':=by
 have H:=hid h
 obtain ⟨c0,cf⟩:=cells1 h
 have hlt:=lt_of_block h
 have hd:decide ((0:Int) ≤ r - 1) = true:=by simp;omega
 have hd':(0:Int) ≤ r - 1:=by omega
 clear h
 go_enter Tryz.func86,Tryz.ntmps86
 go_wp2
 go_ret
 refine ⟨by simp,?_,?_⟩
 ·exact (heap_alloc_old _ _ (by simpa [World.setCell] using hlt)).trans (set1 H.out)
 ·exact (by repeat (first | (with_reducible exact Upon.refl _ _) | ((with_reducible refine Upon.setAt ?_ ?_ _);(rotate_left;focus (first | exact Or.inl rfl | omega | (simp;done) | (simp;omega)))) | (with_reducible refine Upon.alloc ?_ _) | (with_reducible refine Upon.drewN ?_ _) | (with_reducible refine Upon.drew ?_)))
def takeV (rb:Nat):Value:=.func (.func 86) #[] #[.pointer (some ⟨rb,0,none⟩)]
def VisSaid (e:PE):Prop:=∀ (W0 w:World) (ad:Option Addr) (cap rb:Nat) (r:Int),AE W0 e ad cap → Below W0.heap.size W0 w → W0.heap.size ≤ rb → RoomIs w rb r → (e.args.sz:Int) + 1 ≤ r → r ≤ 1000000 →
 Calls Tryz.prog 87 #[.agg #[.int .i64 e.k,.string e.nm,.int .i64 e.n,.int .i64 e.d,.slice ad e.args.len cap,.int .i64 e.a],takeV rb] w fun x w' =>
  x = .returned (.bool true) ∧ RoomIs w' rb (r - (e.args.sz + 1)) ∧ Upon rb w w'
def VsRel (W0 w:World) (e:PE) (ad:Option Addr) (rb:Nat) (r:Int) (v:Value) (wr:World):Prop :=
 ∃ (i:Nat) (rest:PL) (rr:Int),v = .int .i64 (i:Int) ∧ RestP W0 ad e.args rest i ∧ RoomIs wr rb rr ∧ rr - rest.sz = r - (e.args.sz + 1) ∧ Upon rb w wr
set_option maxRecDepth 100000 in
set_option maxHeartbeats 2000000 in
theorem visit_step (e:PE) (ih:∀ e':PE,e'.args.sz < e.args.sz → VisSaid e'):VisSaid e:=by
 intro W0 w ad cap rb r hae hb hrb hrm hr1 hr2
 obtain ⟨k,nm,n,d,args,a⟩:=e
 have hlen:=hae.len
 simp only at hlen hr1 ⊢
 have HA:=hid hae
 have HB0:=hid hb
 have HRM:=hid hrm
 have HIH:=hid ih
 have HLT:=hid (lt_of_block hrm)
 have hlt:=lt_of_block hrm
 have hsz0:=hb.size
 clear hae hb hrm ih
 unfold takeV
 have HT:=hid (fun w v => take_any (w:=w) k n d a nm v rb r)
 have hne:¬ w.heap.size = rb:=by omega
 have hne':¬ rb = w.heap.size:=by omega
 go_enter Tryz.func87,Tryz.ntmps87
 go_wp2_with (go_at_call 86;refine (HT.out _ _ ((heap_alloc_old _ _ HLT.out).trans HRM.out) oq oq).mono ?_;rintro x w1 ⟨rfl,hrm1,hu1⟩;obtain ⟨hc1,hf1⟩:=ucell hu1;have b1:w.heap.size < w1.heap.size:=Nat.lt_of_lt_of_le oq hu1.size)
 have HU1:=hid hu1
 have HRM1:=hid hrm1
 clear hu1 hrm1
 go_loopw [14] (fun v wr => Hid (VsRel W0 w ⟨k,nm,n,d,args,a⟩ ad rb r v wr)) (fun i _ => args.len - (intOf i).toNat)
 case atStart => exact ⟨0,args,r - 1,rfl,RestP.start HA.out.args,HRM1.out,by simp only;omega,((Upon.refl _ _).alloc _).trans HU1.out⟩
 case round =>
  obtain ⟨i,rest,rr,rfl,hrest,hroom,hrr,hup⟩:=hrel.out
  clear hrel
  simp only at hrr
  have HUP:=hid hup
  have HROOM:=hid hroom
  have hil:=hrest.1
  simp only at hil
  have hbw:Below W0.heap.size W0 wr:=HB0.out.trans (hup.below HB0.out.size hrb)
  have HRS0:=hid hrest
  have HRS:=hid (hrest.below hbw)
  have HBW:=hid hbw
  have hltr:=lt_of_block hroom
  have hszr:=hup.size
  clear hup hroom hrest hbw
  cases rest with
  | nil =>
   have hil':(i:Int) = (args.len:Int):=by simp only [PL.len] at hil;omega
   simp only [PL.sz] at hrr
   go_wp2
   go_ret
   refine ⟨rfl,?_,HUP.out⟩
   have e1:rr = r - (↑args.sz + 1):=by simpa using hrr
   rw [← e1];exact HROOM.out
  | cons k1 nm1 n1 d1 args1 a1 tl =>
   have hil':(i:Int) < (args.len:Int):=by simp only [PL.len] at hil;omega
   have hrest0:=HRS0.out.2.2.resolve_left (by intro h;cases h)
   obtain ⟨b,o,rfl,hb,h0,h1,h2,h3,h5,hn,⟨ad1,cap1,h4,hcap1,hcm1,hd1⟩,ht⟩:=HRS.out.2.2.resolve_left (by intro h;cases h)
   obtain ⟨b',o',hbo,hb',g0,g1,g2,g3,g5,gn,⟨ad1',cap1',g4,gcap1,gcm1,gd1⟩,gt⟩:=hrest0
   injection hbo with hbo;injection hbo with hbo1 hbo2;subst hbo1;subst hbo2
   have hsub:=HRS0.out.2.1
   simp only [PL.sz] at hsub hrr
   have hee:=(HBW.out.cell (p:=⟨b,o + i * 6 + 4,none⟩) hb').trans g4
   rw [h4] at hee
   injection hee with hee;injection hee with he1 he2 he3
   subst he1;subst he3
   have HE:=hid (show AE W0 ⟨k1,nm1,n1,d1,args1,a1⟩ ad1 cap1 from ⟨gn,⟨gcap1,gcm1⟩,gd1⟩)
   have HC:=hid (fun w' hb hr => HIH.out ⟨k1,nm1,n1,d1,args1,a1⟩ (by show args1.sz < args.sz;omega) W0 w' ad1 cap1 rb rr HE.out hb hrb hr (by show (args1.sz:Int) + 1 ≤ rr;omega) oq)
   unfold takeV at HC
   simp only at HC
   clear hn hd1 ht g0 g1 g2 g3 g5 gn g4 gd1 gt gcap1 gcm1 hb'
   go_wp2_with (go_at_call 87;go_loud (refine (HC.out _ (HBW.out.trans (Below.mono (show Below wr.heap.size wr _ from bq) HBW.out.size)) ((heap_alloc_old _ _ hltr).trans HROOM.out)).mono ?_;rintro x w2 ⟨rfl,hrm2,hu2⟩))
   refine ⟨⟨i + 1,tl,rr - (args1.sz + 1),by go_num,HRS0.out.tail,hrm2,by simp only;omega,(HUP.out.alloc _).trans hu2⟩,by simp [intOf];omega⟩
theorem visit_any (e:PE):VisSaid e:=by
 suffices h:∀ (N:Nat) (e:PE),e.args.sz < N → VisSaid e from h _ e (Nat.lt_succ_self _)
 intro N
 induction N with
 | zero => intro e h;omega
 | succ N ih => intro e h;exact visit_step e (fun e' h' => ih e' oq)
def sumN:List ND → Nat
 | [] => 0
 | n :: l => n.body.args.sz + 1 + sumN l
def sumF:List FL → Nat
 | [] => 0
 | f :: l => f.e.args.sz + 1 + sumF l
theorem drop_nd {l:List ND} {i:Nat} (h:i < l.length):l.drop i = l[i] :: l.drop (i + 1):=by rw [List.drop_eq_getElem_cons h]
theorem NodeC.cells {w:World} {b o:Nat} {nm nm1:ByteArray} {ps:List ByteArray} {bud k1 n1 d1 a1 fa:Int} {args1:PL} (h:NodeC w b o ⟨nm,ps,bud,⟨k1,nm1,n1,d1,args1,a1⟩,fa⟩):∃ pa pc ad cap,
  w.cell? ⟨b,o,none⟩ = some (.string nm) ∧ w.cell? ⟨b,o + 1,none⟩ = some (.slice pa ps.length pc) ∧ w.cell? ⟨b,o + 2,none⟩ = some (.int .i64 bud) ∧ w.cell? ⟨b,o + 3,none⟩ = some (.int .i64 k1) ∧ w.cell? ⟨b,o + 4,none⟩ = some (.string nm1) ∧
  w.cell? ⟨b,o + 5,none⟩ = some (.int .i64 n1) ∧ w.cell? ⟨b,o + 6,none⟩ = some (.int .i64 d1) ∧ w.cell? ⟨b,o + 7,none⟩ = some (.slice ad args1.len cap) ∧ w.cell? ⟨b,o + 8,none⟩ = some (.int .i64 a1) ∧ w.cell? ⟨b,o + 9,none⟩ = some (.int .i64 fa) ∧
  AE w ⟨k1,nm1,n1,d1,args1,a1⟩ ad cap ∧ (ps.length ≤ pc ∧ pc ≤ 9223372036854775807 ∧ Row StrC 1 w ps pa) ∧ (nm.size ≤ 9223372036854775807 ∧ I64 bud ∧ I64 fa):=by
 obtain ⟨x0,⟨pa,pc,x1,p1,p2,p3⟩,x2,⟨ad,cap,x3,x4,x5,x6,x7,x8,hae⟩,x9,hfn⟩:=h
 exact ⟨pa,pc,ad,cap,x0,x1,x2,x3,x4,x5,x6,x7,x8,x9,hae,⟨p1,p2,p3⟩,hfn⟩
theorem FlC.later {w wr:World} {b o:Nat} {f:FL} (h:FlC w b o f) (hb:Below w.heap.size w wr) (hlt:b < w.heap.size):FlC wr b o f:=flSta w wr b o f hb hlt h
def PBox (w:World) (b:Nat) (p:PG) (an ai af ao:Option Addr) (cn ci cf co:Nat):Prop:=w.heap[b]? = some (.cells #[.slice an p.nodes.length cn,.slice ai p.ins.length ci,.slice af p.flows.length cf,.slice ao p.outs.length co] 27 (0,0))
def FtRel (w:World) (p:PG) (an ai af ao:Option Addr) (cn ci cf co:Nat) (len:Nat) (tot:Nat → Nat) (v:Value) (wr:World):Prop :=
 ∃ (i:Nat) (r:Int),v = .int .i64 (i:Int) ∧ i ≤ len ∧ RoomIs wr (w.heap.size + 1) r ∧ (tot i:Int) ≤ r ∧ r ≤ 8000 ∧ PBox wr w.heap.size p an ai af ao cn ci cf co ∧ Below w.heap.size w wr
set_option maxRecDepth 100000 in
set_option maxHeartbeats 4000000 in
theorem fits_any {w:World} (p:PG) (an ai af ao:Option Addr) (cn ci cf co:Nat) (hp:AP w p an ai af ao cn ci cf co) (hs:sumN p.nodes + sumF p.flows ≤ 8000) :
  Calls Tryz.prog 44 #[pv p an ai af ao cn ci cf co] w fun x w' => x = .returned (.bool true) ∧ Below w.heap.size w w':=by
 obtain ⟨nodes,ins,flows,outs⟩:=p
 obtain ⟨hn,hi,hf,ho,hcap⟩:=hp
 simp only at hn hi hf ho hcap hs
 have HN:=hid hn
 have HF:=hid hf
 have hnl:nodes.length ≤ 9223372036854775807:=by omega
 have hfl:flows.length ≤ 9223372036854775807:=by omega
 clear hn hi hf ho
 unfold pv
 simp only
 go_enter Tryz.func44,Tryz.ntmps44
 go_wp2
 go_loopw [13] (fun v wr => Hid (FtRel w ⟨nodes,ins,flows,outs⟩ an ai af ao cn ci cf co nodes.length (fun i => sumN (nodes.drop i) + sumF flows) v wr)) (fun i _ => nodes.length - (intOf i).toNat)
 case atStart => exact ⟨0,8000,rfl,Nat.zero_le _,by simpa [RoomIs] using heap_new (w.alloc _) _,by simp only [List.drop_zero];omega,by omega,(heap_alloc_old _ _ (by simp)).trans (heap_new w _),bq⟩
 case round =>
  obtain ⟨i,r,rfl,hi,hroom,hr1,hr2,hpb,hbel⟩:=hrel.out
  clear hrel
  simp only at hr1
  unfold PBox at hpb
  simp only at hpb
  obtain ⟨⟨x0,x1,x2,x3⟩,xf⟩:=cells4 hpb
  have HPB:=hid hpb
  have HROOM:=hid hroom
  have HBEL:=hid hbel
  have hltr:=lt_of_block hroom
  have hltp:=lt_of_block hpb
  have hszr:=hbel.size
  clear hpb hroom
  by_cases hlt:i < nodes.length
  ·obtain ⟨bb,oo,rfl,hbb0,hnd0⟩:=HN.out.at hlt
   have hnd:=nodeSta w wr bb _ _ hbel hbb0 hnd0
   have hbb:=Nat.lt_of_lt_of_le hbb0 hszr
   rw [drop_nd hlt] at hr1
   obtain ⟨n,hn⟩:∃ n,nodes[i] = n:=⟨_,rfl⟩
   rw [hn] at hnd hnd0 hr1
   obtain ⟨nm,ps,bud,⟨k1,nm1,n1,d1,args1,a1⟩,fa⟩:=n
   simp only [sumN] at hr1
   obtain ⟨pa,pc,ad,cap,y0,y1,y2,y3,y4,y5,y6,y7,y8,y9,hae,hps,hfn⟩:=hnd.cells
   obtain ⟨_,_,ad',cap',_,_,_,_,_,_,_,y7',_,_,hae',_,_⟩:=hnd0.cells
   have hee:=(hbel.cell (p:=⟨bb,oo + i * 10 + 7,none⟩) hbb0).trans y7'
   rw [y7] at hee
   injection hee with hee;injection hee with he1 he2 he3
   subst he1;subst he3
   have HE:=hid hae'
   have HC:=hid (fun w' hb hr => visit_any ⟨k1,nm1,n1,d1,args1,a1⟩ w w' ad cap (w.heap.size + 1) r HE.out hb oq hr (by show (args1.sz:Int) + 1 ≤ r;omega) oq)
   unfold takeV at HC
   simp only at HC
   have hie:(i:Int) < (nodes.length:Int):=by omega
   clear hbel hnd hnd0 hae hae' y7' hps hfn hbb0
   go_wp2_with (go_at_call 87;go_loud (refine (HC.out _ bq ((heap_alloc_old _ _ hltr).trans HROOM.out)).mono ?_;rintro x w2 ⟨rfl,hrm2,hu2⟩))
   refine ⟨⟨i + 1,r - (args1.sz + 1),by go_num,by omega,hrm2,by simp only;omega,by omega,(hu2.block _ (by simp;omega) oq).trans ((heap_alloc_old _ _ hltp).trans HPB.out),(HBEL.out.alloc oq _).trans (hu2.below (by simp;omega) oq)⟩,by simp [intOf];omega⟩
  ·have hie:i = nodes.length:=by omega
   subst hie
   have HR1:=hid (show (sumF flows:Int) ≤ r by rw [List.drop_length] at hr1;simpa [sumN] using hr1)
   clear hbel hr1
   go_wp2
   go_loopw [26] (fun v wr => Hid (FtRel w ⟨nodes,ins,flows,outs⟩ an ai af ao cn ci cf co flows.length (fun i => sumF (flows.drop i)) v wr)) (fun i _ => flows.length - (intOf i).toNat)
   case atStart => exact ⟨0,r,rfl,Nat.zero_le _,HROOM.out,by simpa using HR1.out,by omega,HPB.out,HBEL.out⟩
   case round =>
    clear HROOM HBEL HPB HR1 hltr hltp hszr x0 x1 x2 x3 xf
    obtain ⟨i,r,rfl,hi,hroom,hr1,hr2,hpb,hbel⟩:=hrel.out
    clear hrel
    simp only at hr1
    unfold PBox at hpb
    simp only at hpb
    obtain ⟨⟨x0,x1,x2,x3⟩,xf⟩:=cells4 hpb
    have HPB:=hid hpb
    have HROOM:=hid hroom
    have HBEL:=hid hbel
    have hltr:=lt_of_block hroom
    have hltp:=lt_of_block hpb
    have hszr:=hbel.size
    clear hpb hroom
    by_cases hlt:i < flows.length
    ·obtain ⟨bb,oo,rfl,hbb0,hfl0⟩:=HF.out.at hlt
     have hfl':=hfl0.later hbel hbb0
     have hbb:=Nat.lt_of_lt_of_le hbb0 hszr
     rw [drop_fl hlt] at hr1
     obtain ⟨f,hf⟩:∃ f,flows[i] = f:=⟨_,rfl⟩
     rw [hf] at hfl' hfl0 hr1
     obtain ⟨nm,⟨k1,nm1,n1,d1,args1,a1⟩,fa⟩:=f
     simp only [sumF] at hr1
     obtain ⟨ad,cap,y0,y1,y2,y3,y4,y5,y6,y7,hae,hfn⟩:=hfl'.cells
     obtain ⟨ad',cap',_,_,_,_,_,y5',_,_,hae',_⟩:=hfl0.cells
     have hee:=(hbel.cell (p:=⟨bb,oo + i * 8 + 5,none⟩) hbb0).trans y5'
     rw [y5] at hee
     injection hee with hee;injection hee with he1 he2 he3
     subst he1;subst he3
     have HE:=hid hae'
     have HC:=hid (fun w' hb hr => visit_any ⟨k1,nm1,n1,d1,args1,a1⟩ w w' ad cap (w.heap.size + 1) r HE.out hb oq hr (by show (args1.sz:Int) + 1 ≤ r;omega) oq)
     unfold takeV at HC
     simp only at HC
     have hie:(i:Int) < (flows.length:Int):=by omega
     clear hbel hfl' hfl0 hae hae' y5' hfn hbb0
     go_wp2_with (go_at_call 87;go_loud (refine (HC.out _ bq ((heap_alloc_old _ _ hltr).trans HROOM.out)).mono ?_;rintro x w2 ⟨rfl,hrm2,hu2⟩))
     refine ⟨⟨i + 1,r - (args1.sz + 1),by go_num,by omega,hrm2,by simp only;omega,by omega,(hu2.block _ (by simp;omega) oq).trans ((heap_alloc_old _ _ hltp).trans HPB.out),(HBEL.out.alloc oq _).trans (hu2.below (by simp;omega) oq)⟩,by simp [intOf];omega⟩
    ·clear hbel
     go_wp2
     go_ret
     exact ⟨rfl,HBEL.out⟩
attribute [local go_sem] Oper.semAt_some
def itemsL:PL → List PE
 | .nil => []
 | .cons k nm n d args a tl => ⟨k,nm,n,d,args,a⟩ :: (itemsL args ++ itemsL tl)
theorem itemsL_sz:∀ l:PL,(itemsL l).length = l.sz:=by
 intro l
 induction l with
 | nil => rfl
 | cons k nm n d args a tl ih1 ih2 => simp only [itemsL,List.length_cons,List.length_append,ih1,ih2,PL.sz];omega
structure VX (W0:World) where
 e:PE
 ad:Option Addr
 cap:Nat
 ok:AE W0 e ad cap
def VX.vs {W0:World} (x:VX W0):Array Value:=#[.agg #[.int .i64 x.e.k,.string x.e.nm,.int .i64 x.e.n,.int .i64 x.e.d,.slice x.ad x.e.args.len x.cap,.int .i64 x.e.a]]
def VYAns {W0:World} (n₀:Nat) (J Jx:List (VX W0) → World → Prop) (pre:List (VX W0)) (e:PE) (W:World) (x:Ending) (W':World):Prop :=
 (x = .returned (.bool true) ∧ (∃ ys:List (VX W0),ys.map (·.e) = e :: itemsL e.args ∧ J (pre ++ ys) W') ∧ KC n₀ W W') ∨
  (x = .returned (.bool false) ∧ ∃ q:List (VX W0),q.map (·.e) <+: (e :: itemsL e.args) ∧ Jx (pre ++ q) W')
def VYRel {W0:World} (n₀:Nat) (J:List (VX W0) → World → Prop) (pre:List (VX W0)) (e:PE) (ad:Option Addr) (W:World) (v:Value) (wr:World):Prop :=
 ∃ (i:Nat) (rest:PL) (ys:List (VX W0)),v = .int .i64 (i:Int) ∧ RestP W0 ad e.args rest i ∧ ys.map (·.e) ++ itemsL rest = e :: itemsL e.args ∧ J (pre ++ ys) wr ∧ KC n₀ W wr
set_option maxRecDepth 100000 in
set_option maxHeartbeats 4000000 in
theorem visitY_step {W0:World} (F:Fence) (hd:F.depth = none) (hF:F.fn 87) (hro:F.round = none) (l B N:Nat) (J Jx:List (VX W0) → World → Prop) (hJ:AbidesFrom B J)
  (hY:∀ m pre x W,J pre W → pre.length < N → YieldAt F m Tryz.prog l x.vs W fun e W' => (e = .returned (.bool true) ∧ J (pre ++ [x]) W' ∧ KC W0.heap.size W W') ∨ (e = .returned (.bool false) ∧ Jx (pre ++ [x]) W')) (e:PE)
  (ih:∀ e':PE,e'.args.sz < e.args.sz → ∀ (n:Nat) (ad:Option Addr) (cap:Nat) (pre:List (VX W0)) (W:World),AE W0 e' ad cap → Below W0.heap.size W0 W → J pre W → pre.length + e'.args.sz + 1 ≤ N →
   CallsIn F n Tryz.prog 87 #[.agg #[.int .i64 e'.k,.string e'.nm,.int .i64 e'.n,.int .i64 e'.d,.slice ad e'.args.len cap,.int .i64 e'.a],.func (.yield l) #[] #[]] W (VYAns W0.heap.size J Jx pre e' W)) :
  ∀ (n:Nat) (ad:Option Addr) (cap:Nat) (pre:List (VX W0)) (W:World),AE W0 e ad cap → Below W0.heap.size W0 W → J pre W → pre.length + e.args.sz + 1 ≤ N →
   CallsIn F n Tryz.prog 87 #[.agg #[.int .i64 e.k,.string e.nm,.int .i64 e.n,.int .i64 e.d,.slice ad e.args.len cap,.int .i64 e.a],.func (.yield l) #[] #[]] W (VYAns W0.heap.size J Jx pre e W):=by
 intro n ad cap pre W hae hb hj hN
 obtain ⟨k,nm,nn,d,args,a⟩:=e
 have hlen:=hae.len
 simp only at hlen hN ih ⊢
 have hdd:∀ k:Nat,(F.depth.isSome = true → 1 ≤ k):=fun k h => by rw [hd] at h;cases h
 have hsz0:=hb.size
 obtain ⟨X,hX1,hX2⟩:∃ X:VX W0,X.vs = #[.agg #[.int .i64 k,.string nm,.int .i64 nn,.int .i64 d,.slice ad args.len cap,.int .i64 a]] ∧ X.e = ⟨k,nm,nn,d,args,a⟩:=⟨⟨⟨k,nm,nn,d,args,a⟩,ad,cap,hae⟩,rfl,rfl⟩
 obtain ⟨fn,tmps,assign,body,hy,hR⟩:=hY (n - 1) pre X (W.alloc (Obj.cells #[.int .i64 k,.string nm,.int .i64 nn,.int .i64 d,.slice ad args.len cap,.int .i64 a] 95)) (abide_alloc hJ hj _) oq
 rw [hX1] at hy
 have HX2:=hid hX2
 clear hX1 hX2
 have HA:=hid hae
 have HB:=hid hb
 have HIH:=hid ih
 have HR:=hid hR
 clear hae hb ih hR hj
 refine callsIn_of_wp Tryz.func87 rfl hF ?_ hro
 simp only [Tryz.ntmps87,List.size_toArray,List.length_cons,List.length_nil,Nat.reduceAdd,Nat.reduceSub,Array.replicate_succ,Array.replicate_zero,List.push_toArray,List.append_toArray,List.nil_append,List.cons_append]
 gi_wp2
 refine HR.out.mono ?_
 rintro e W1 (⟨rfl,hJ1,hk1⟩ | ⟨rfl,hJx⟩)
 ·have hbox:=hk1.same W.heap.size _ (heap_new W _) rfl
  obtain ⟨⟨x0,x1,x2,x3,x4,x5⟩,xf⟩:=cells6' hbox
  have HJ1:=hid hJ1
  have HK1:=hid ((KC.refl W0.heap.size W).alloc hsz0 _ |>.trans hk1)
  clear hJ1 hk1 hbox
  gi_wp2
  gi_loopw [14] (fun v wr => Hid (VYRel W0.heap.size J pre ⟨k,nm,nn,d,args,a⟩ ad W v wr)) (fun i _ => args.len - (intOf i).toNat)
  case atStart => exact ⟨0,args,[X],rfl,RestP.start HA.out.args,by simp only [List.map_cons,List.map_nil,List.singleton_append,HX2.out],HJ1.out,HK1.out⟩
  case round =>
   obtain ⟨i,rest,ys,rfl,hrest,hys,hj2,hk2⟩:=hrel.out
   clear hrel
   simp only at hys
   have HK2:=hid hk2
   have HJ2:=hid hj2
   have hil:=hrest.1
   simp only at hil
   have hbw:Below W0.heap.size W0 wr:=HB.out.trans hk2.below
   have HRS0:=hid hrest
   have HRS:=hid (hrest.below hbw)
   have HBW:=hid hbw
   have hszw:=hbw.size
   clear hk2 hj2 hrest hbw
   cases rest with
   | nil =>
    have hil':(i:Int) = (args.len:Int):=by simp only [PL.len] at hil;omega
    simp only [itemsL,List.append_nil] at hys
    have HYS:=hid hys
    clear hys
    gi_wp2
    go_ret
    exact .inl ⟨rfl,⟨ys,HYS.out,HJ2.out⟩,HK2.out⟩
   | cons k1 nm1 n1 d1 args1 a1 tl =>
    have hil':(i:Int) < (args.len:Int):=by simp only [PL.len] at hil;omega
    have hrest0:=HRS0.out.2.2.resolve_left (by intro h;cases h)
    obtain ⟨b,o,rfl,hb,h0,h1,h2,h3,h5,hn,⟨ad1,cap1,h4,hcap1,hcm1,hd1⟩,ht⟩:=HRS.out.2.2.resolve_left (by intro h;cases h)
    obtain ⟨b',o',hbo,hb',g0,g1,g2,g3,g5,gn,⟨ad1',cap1',g4,gcap1,gcm1,gd1⟩,gt⟩:=hrest0
    injection hbo with hbo;injection hbo with hbo1 hbo2;subst hbo1;subst hbo2
    have hsub:=HRS0.out.2.1
    simp only [PL.sz] at hsub
    have hlys:=congrArg List.length hys
    simp only [List.length_append,List.length_map,itemsL_sz,List.length_cons,PL.sz] at hlys
    have hee:=(HBW.out.cell (p:=⟨b,o + i * 6 + 4,none⟩) hb').trans g4
    rw [h4] at hee
    injection hee with hee;injection hee with he1 he2 he3
    subst he1;subst he3
    have HE:=hid (show AE W0 ⟨k1,nm1,n1,d1,args1,a1⟩ ad1 cap1 from ⟨gn,⟨gcap1,gcm1⟩,gd1⟩)
    have HC:=hid (HIH.out ⟨k1,nm1,n1,d1,args1,a1⟩ (by show args1.sz < args.sz;omega) (n - 1) ad1 cap1 (pre ++ ys) (wr.alloc (Obj.cells #[.int .i64 k1,.string nm1,.int .i64 n1,.int .i64 d1,.slice ad1 args1.len cap1,.int .i64 a1] 95)) HE.out (HBW.out.alloc hszw _) (abide_alloc hJ HJ2.out _) (by simp only [List.length_append];omega))
    simp only at HC
    have HYS:=hid hys
    clear hn hd1 ht g0 g1 g2 g3 g5 gn g4 gd1 gt gcap1 gcm1 hb' hys hlys
    gi_wp2_with ((try refine ⟨hdd _,?_⟩);gi_at_call 87;refine HC.out.mono ?_;rintro x w2 (⟨rfl,⟨zs,hzs,hj3⟩,hk3⟩ | ⟨rfl,q,hq,hjx⟩))
    ·go_roundw
     case rel => exact ⟨i + 1,tl,ys ++ zs,by go_num,HRS0.out.tail,by rw [List.map_append,hzs,← HYS.out,itemsL];simp,by rw [← List.append_assoc];exact hj3,(HK2.out.alloc hszw _).trans hk3⟩
     case measure => simp [intOf];omega
    ·go_ret
     refine .inr ⟨rfl,ys ++ q,?_,by rw [← List.append_assoc];exact hjx⟩
     obtain ⟨r,hr⟩:=hq
     refine ⟨r ++ itemsL tl,?_⟩
     rw [List.map_append,← HYS.out,itemsL,← List.cons_append,← hr]
     simp
 ·gi_wp2
  go_ret
  exact .inr ⟨rfl,[X],⟨itemsL args,by simp only [List.map_cons,List.map_nil,List.singleton_append,HX2.out]⟩,hJx⟩
attribute [local go_sem] Oper.semAt_some
theorem visitY_any {W0:World} (F:Fence) (hd:F.depth = none) (hF:F.fn 87) (hro:F.round = none) (l B N:Nat) (J Jx:List (VX W0) → World → Prop) (hJ:AbidesFrom B J)
  (hY:∀ m pre x W,J pre W → pre.length < N → YieldAt F m Tryz.prog l x.vs W fun e W' => (e = .returned (.bool true) ∧ J (pre ++ [x]) W' ∧ KC W0.heap.size W W') ∨ (e = .returned (.bool false) ∧ Jx (pre ++ [x]) W')) :
  ∀ (e:PE) (n:Nat) (ad:Option Addr) (cap:Nat) (pre:List (VX W0)) (W:World),AE W0 e ad cap → Below W0.heap.size W0 W → J pre W → pre.length + e.args.sz + 1 ≤ N →
   CallsIn F n Tryz.prog 87 #[.agg #[.int .i64 e.k,.string e.nm,.int .i64 e.n,.int .i64 e.d,.slice ad e.args.len cap,.int .i64 e.a],.func (.yield l) #[] #[]] W (VYAns W0.heap.size J Jx pre e W):=by
 intro e
 suffices h:∀ (M:Nat) (e:PE),e.args.sz < M → ∀ (n:Nat) (ad:Option Addr) (cap:Nat) (pre:List (VX W0)) (W:World),AE W0 e ad cap → Below W0.heap.size W0 W → J pre W → pre.length + e.args.sz + 1 ≤ N →
   CallsIn F n Tryz.prog 87 #[.agg #[.int .i64 e.k,.string e.nm,.int .i64 e.n,.int .i64 e.d,.slice ad e.args.len cap,.int .i64 e.a],.func (.yield l) #[] #[]] W (VYAns W0.heap.size J Jx pre e W) from h _ e (Nat.lt_succ_self _)
 intro M
 induction M with
 | zero => intro e h;omega
 | succ M ih => intro e h;exact visitY_step F hd hF hro l B N J Jx hJ hY e (fun e' h' => ih e' oq)
def itemsF:List FL → List PE
 | [] => []
 | f :: l => f.e :: (itemsL f.e.args ++ itemsF l)
def WiRel {W0:World} (J:List (VX W0) → World → Prop) (flows:List FL) (W:World) (v:Value) (wr:World):Prop :=
 ∃ (i:Nat) (ys:List (VX W0)),v = .int .i64 (i:Int) ∧ i ≤ flows.length ∧ ys.map (·.e) ++ itemsF (flows.drop i) = itemsF flows ∧ J ys wr ∧ KC W0.heap.size W wr
set_option maxRecDepth 100000 in
set_option maxHeartbeats 4000000 in
theorem within1_in {W0:World} (F:Fence) (hd:F.depth = none) (hG:F.fn 136) (hF:F.fn 87) (hro:F.round = none) (n l B Bs:Nat) (flows:List FL) (af:Option Addr) (cf:Nat)
  (hr:Row FlC 8 W0 flows af) (hc1:flows.length ≤ cf) (hc2:cf ≤ 9223372036854775807) (J Jx:List (VX W0) → World → Prop) (hJ:AbidesFrom B J)
  (hY:∀ m pre x W,J pre W → pre.length < (itemsF flows).length → YieldAt F m Tryz.prog l x.vs W fun e W' => (e = .returned (.bool true) ∧ J (pre ++ [x]) W' ∧ KC W0.heap.size W W') ∨ (e = .returned (.bool false) ∧ Jx (pre ++ [x]) W'))
  (W:World) (hB:Below W0.heap.size W0 W) (hbx:W.cell? ⟨Bs,0,none⟩ = some (.slice af flows.length cf)) (h0:J [] W) :
  CallsIn F n Tryz.prog 136 #[.func (.yield l) #[] #[],.pointer (some ⟨Bs,0,none⟩)] W fun e W' => (∃ v,e = .returned v) ∧
   ((∃ xs:List (VX W0),xs.map (·.e) = itemsF flows ∧ J xs W') ∨ (∃ pre:List (VX W0),pre.map (·.e) <+: itemsF flows ∧ Jx pre W')):=by
 have hdd:∀ k:Nat,(F.depth.isSome = true → 1 ≤ k):=fun k h => by rw [hd] at h;cases h
 have hfl64:flows.length ≤ 9223372036854775807:=Nat.le_trans hc1 hc2
 have HV:=hid (visitY_any F hd hF hro l B (itemsF flows).length J Jx hJ hY)
 have HR:=hid hr
 have HB:=hid hB
 have HJ0:=hid h0
 have hsz0:=hB.size
 clear hr hY hB h0
 refine callsIn_of_wp Tryz.func136 rfl hG ?_ hro
 simp only [Tryz.ntmps136,List.size_toArray,List.length_cons,List.length_nil,Nat.reduceAdd,Nat.reduceSub,Array.replicate_succ,Array.replicate_zero,List.push_toArray,List.append_toArray,List.nil_append,List.cons_append]
 gi_wp2
 gi_loopw [7] (fun v wr => Hid (WiRel J flows W v wr)) (fun i _ => flows.length - (intOf i).toNat)
 case atStart => exact ⟨0,[],rfl,Nat.zero_le _,rfl,HJ0.out,KC.refl _ _⟩
 case round =>
  obtain ⟨i,ys,rfl,hi,hys,hj,hk⟩:=hrel.out
  clear hrel
  have hbw:Below W0.heap.size W0 wr:=HB.out.trans hk.below
  have HBW:=hid hbw
  have HK:=hid hk
  have HJY:=hid hj
  have hszw:=hbw.size
  by_cases hlt:i < flows.length
  ·obtain ⟨bb,oo,rfl,hbb0,hfl0⟩:=HR.out.at hlt
   have hfl':=hfl0.later hbw hbb0
   have hbb:=Nat.lt_of_lt_of_le hbb0 hszw
   rw [drop_fl hlt] at hys
   obtain ⟨f,hf⟩:∃ f,flows[i] = f:=⟨_,rfl⟩
   rw [hf] at hfl' hfl0 hys
   obtain ⟨nm,⟨k1,nm1,n1,d1,args1,a1⟩,fa⟩:=f
   obtain ⟨ad,cap,y0,y1,y2,y3,y4,y5,y6,y7,hae,hfn⟩:=hfl'.cells
   obtain ⟨ad',cap',_,_,_,_,_,y5',_,_,hae',_⟩:=hfl0.cells
   have hee:=(hbw.cell (p:=⟨bb,oo + i * 8 + 5,none⟩) hbb0).trans y5'
   rw [y5] at hee
   injection hee with hee;injection hee with he1 he2 he3
   subst he1;subst he3
   have hlys:=congrArg List.length hys
   simp only [List.length_append,List.length_map,itemsF,List.length_cons,itemsL_sz] at hlys
   have HC:=hid (HV.out ⟨k1,nm1,n1,d1,args1,a1⟩ (n - 1) ad cap ys (wr.alloc (Obj.cells #[.string nm,.int .i64 k1,.string nm1,.int .i64 n1,.int .i64 d1,.slice ad args1.len cap,.int .i64 a1,.int .i64 fa] 108)) hae' (hbw.alloc hszw _) (abide_alloc hJ hj _) (by show ys.length + args1.sz + 1 ≤ _;omega))
   simp only at HC
   have hie:(i:Int) < (flows.length:Int):=by omega
   have HYS:=hid hys
   clear hbw hk hj hfl' hfl0 hae hae' y5' hfn hbb0 hys hlys
   gi_wp2_with ((try refine ⟨hdd _,?_⟩);gi_at_call 87;refine HC.out.mono ?_;rintro x w2 (⟨rfl,⟨zs,hzs,hj3⟩,hk3⟩ | ⟨rfl,q,hq,hjx⟩))
   ·go_roundw
    case rel => exact ⟨i + 1,ys ++ zs,by go_num,by omega,by rw [List.map_append,hzs,← HYS.out,itemsF];simp,hj3,(HK.out.alloc hszw _).trans hk3⟩
    case measure => simp [intOf];omega
   ·refine bodyPost_ret (results_none rfl _ _ _) rfl ?_
    refine ⟨⟨_,rfl⟩,.inr ⟨ys ++ q,?_,hjx⟩⟩
    obtain ⟨r,hr⟩:=hq
    refine ⟨r ++ itemsF (flows.drop (i + 1)),?_⟩
    rw [List.map_append,← HYS.out,itemsF,← List.cons_append,← hr]
    simp
  ·have hie:i = flows.length:=by omega
   subst hie
   have HYS:=hid (show ys.map (·.e) = itemsF flows by rw [List.drop_length] at hys;simpa [itemsF] using hys)
   clear hbw hk hj hys
   gi_wp2
   go_end0
   exact ⟨⟨_,rfl⟩,.inl ⟨ys,HYS.out,HJY.out⟩⟩
theorem within_stops {W0:World} (F:Fence) (hd:F.depth = none) (hG:F.fn 136) (hF:F.fn 87) (hro:F.round = none) (n Bs:Nat) (flows:List FL) (af:Option Addr) (cf:Nat)
  (hr:Row FlC 8 W0 flows af) (hc1:flows.length ≤ cf) (hc2:cf ≤ 9223372036854775807) (w:World) (hBs:Bs < w.heap.size) (hB:Below W0.heap.size W0 w) (hbx:w.cell? ⟨Bs,0,none⟩ = some (.slice af flows.length cf)) :
  SeqStopsK F n Tryz.prog 136 #[.pointer (some ⟨Bs,0,none⟩)] (fun x:VX W0 => x.vs) (KC W0.heap.size) (fun xs => xs.map (·.e) = itemsF flows) (fun pre => pre.map (·.e) <+: itemsF flows) (itemsF flows).length w:=fun l J Jx W hW hJ hJx hY h0 =>
 within1_in F hd hG hF hro n l W.heap.size Bs flows af cf hr hc1 hc2 J Jx hJ (fun m pre x W hj hl => YieldAt.deep hd m (hY pre x W hj hl)) W (hB.trans (hW.mono hB.size)) ((hW.cell (p:=⟨Bs,0,none⟩) hBs).trans hbx) h0
theorem within_any {w:World} (af:Option Addr) (n c:Nat):Calls Tryz.prog 89 #[.slice af n c] w fun e w' => e = .returned (.func (.func 136) #[] #[.pointer (some ⟨w.heap.size,0,none⟩)]) ∧ w' = w.alloc (.cells #[.slice af n c] 24):=by
 go_enter Tryz.func89,Tryz.ntmps89
 go_wp2
 go_ret
 exact ⟨rfl,rfl⟩
open Go.RowKit Go.Shelf
attribute [local go_sem] Oper.semAt_some
def okE (env:Env) (e:PE):Bool:=decide (e.k ≠ 2) || ckA env e.args
def callsOK (env:Env) (flows:List FL):Bool:=(itemsF flows).all (okE env)
set_option maxRecDepth 100000 in
set_option maxHeartbeats 4000000 in
theorem askCalls_any {w:World} (flows:List FL) (af:Option Addr) (cf mb:Nat) (L:List (ByteArray × Value)) (env:Env) (hr:Row FlC 8 w flows af) (hc1:flows.length ≤ cf) (hc2:cf ≤ 9223372036854775807)
  (hM:MapS w mb L) (hE:EnvIs L env) :
  Calls Tryz.prog 47 #[.map (some mb),.slice af flows.length cf] w fun x w' => AskAns (callsOK env flows) x ∧ Below w.heap.size w w':=by
 have HR:=hid hr
 have HM:=hid hM
 clear hr hM
 have HWI:=hid (fun w => within_any (w:=w) af flows.length cf)
 refine (callsIn_wide (n:=6)).1 ?_
 refine callsIn_of_wp_marks Tryz.func47 rfl trivial ?_ rfl
 simp only [Tryz.ntmps47,List.size_toArray,List.length_cons,List.length_nil,Nat.reduceAdd,Nat.reduceSub,Array.replicate_succ,Array.replicate_zero,List.push_toArray,List.append_toArray,List.nil_append,List.cons_append]
 gi_wp2_with (refine ⟨trivial,?_⟩;gi_at_call 89;refine (callsIn_wide.2 (HWI.out _)).mono ?_;rintro e w' ⟨rfl,rfl⟩)
 have bM:=(((Boxed.new w 115 (.map (some mb))).alloc (.cells #[.int .i64 0] 3)).alloc (.cells #[.int .i64 0] 39)).alloc (.cells #[.slice af flows.length cf] 24)
 have bA:=((Boxed.new (w.alloc (.cells #[.map (some mb)] 115)) 3 (.int .i64 0)).alloc (.cells #[.int .i64 0] 39)).alloc (.cells #[.slice af flows.length cf] 24)
 have bE:=(Boxed.new ((w.alloc (.cells #[.map (some mb)] 115)).alloc (.cells #[.int .i64 0] 3)) 39 (.int .i64 0)).alloc (.cells #[.slice af flows.length cf] 24)
 have bS:=Boxed.new (((w.alloc (.cells #[.map (some mb)] 115)).alloc (.cells #[.int .i64 0] 3)).alloc (.cells #[.int .i64 0] 39)) 24 (.slice af flows.length cf)
 simp only [World.size_alloc] at bA bE bS
 have hB0:Below w.heap.size w ((((w.alloc (.cells #[.map (some mb)] 115)).alloc (.cells #[.int .i64 0] 3)).alloc (.cells #[.int .i64 0] 39)).alloc (.cells #[.slice af flows.length cf] 24)):=bq
 have hsz:((((w.alloc (.cells #[.map (some mb)] 115)).alloc (.cells #[.int .i64 0] 3)).alloc (.cells #[.int .i64 0] 39)).alloc (.cells #[.slice af flows.length cf] 24)).heap.size = w.heap.size + 4:=by simp
 obtain ⟨W0,hW0⟩:∃ W0,(((w.alloc (.cells #[.map (some mb)] 115)).alloc (.cells #[.int .i64 0] 3)).alloc (.cells #[.int .i64 0] 39)).alloc (.cells #[.slice af flows.length cf] 24) = W0:=⟨_,rfl⟩
 try simp only [World.size_alloc]
 rw [hW0] at bM bA bE bS hB0 hsz ⊢
 clear hW0
 have hszw:w.heap.size ≤ W0.heap.size:=by omega
 refine wpIn_rangeFunc_ownH (encs:=fun x:VX w => #[.agg #[.int .i64 x.e.k,.string x.e.nm,.int .i64 x.e.n,.int .i64 x.e.d,.slice x.ad x.e.args.len x.cap,.int .i64 x.e.a]]) rfl oq (gf:=136) (lb:=#[.pointer (some ⟨w.heap.size + 1 + 1 + 1,0,none⟩)]) rfl trivial (enters_of Tryz.func136 (by kernel_rfl) rfl)
  (within_stops (W0:=w) Fence.wide rfl trivial trivial rfl _ (w.heap.size + 1 + 1 + 1) flows af cf HR.out hc1 hc2 W0 oq hB0 bS.cell) (fun h k => h.trans k) (fun W l o o' hl h hc _ => KC.putObj W l o o' oq h hc) (Below.refl _ _) (fun _ => rfl)
  (fun pre W => ((Boxed W w.heap.size 115 (.map (some mb)) ∧ Boxed W (w.heap.size + 1) 3 (.int .i64 0)) ∧ Boxed W (w.heap.size + 1 + 1) 39 (.int .i64 0)) ∧ Below w.heap.size w W ∧ (pre.map (·.e)).all (okE env) = true)
  (fun c pre W => ∃ a er,((Boxed W (w.heap.size + 1) 3 (.int .i64 a) ∧ Boxed W (w.heap.size + 1 + 1) 39 (.int .i64 er)) ∧ Below w.heap.size w W) ∧ (c = .ret ∧ er ≠ 0 ∧ (pre.map (·.e)).all (okE env) = false))
  (OwnFrom.and (OwnFrom.and (OwnFrom.and (Own.from (boxed_own _ _ _) _) (Own.from (boxed_own _ _ _) _)) (Own.from (boxed_own _ _ _) _)) (OwnFrom.and (ownFrom_below (Nat.le_refl _) hszw) (ownFrom_pure _ _)))
  (fun c s X Y row hs hg hrw => by
   obtain ⟨a,er,⟨⟨h1,h2⟩,h3⟩,h4⟩:=hs
   exact ⟨a,er,⟨⟨boxed_own _ _ (fun (_:Unit) => Value.int .i64 a) () X Y row h1 hg (fun r e => (hrw r e).2),boxed_own _ _ (fun (_:Unit) => Value.int .i64 er) () X Y row h2 hg (fun r e => (hrw r e).2)⟩,ownFrom_below (β:=Unit) (Nat.le_refl _) hszw () X Y row h3 hg hrw⟩,h4⟩)
  ⟨⟨⟨bM,bA⟩,bE⟩,hB0,rfl⟩
  (fun x a' W => ∃ Bx,w.heap.size + 1 + 1 < Bx ∧ W.heap[Bx]? = some (.cells #[.int .i64 x.e.k,.string x.e.nm,.int .i64 x.e.n,.int .i64 x.e.d,.slice x.ad x.e.args.len x.cap,.int .i64 x.e.a] 95 (0,0)) ∧
   a' = { tmps:=#[.map (some mb),.slice af flows.length cf,.pointer (some ⟨w.heap.size,0,none⟩),undef,.pointer (some ⟨w.heap.size + 1,0,none⟩),.pointer (some ⟨w.heap.size + 1 + 1,0,none⟩),.pointer (some ⟨Bx,0,none⟩),undef,undef,.slice af flows.length cf,
    .func (.func 136) #[] #[.pointer (some ⟨w.heap.size + 1 + 1 + 1,0,none⟩)],.agg #[.int .i64 x.e.k,.string x.e.nm,.int .i64 x.e.n,.int .i64 x.e.d,.slice x.ad x.e.args.len x.cap,.int .i64 x.e.a],undef,undef,undef,undef,undef,undef,undef,undef,undef,undef,undef,undef,undef],defers:=[] })
  (fun x a' _ X Y row hs hg hrw => by
   obtain ⟨Bx,h1,h2,h3⟩:=hs
   refine ⟨Bx,h1,(hg.block Bx (Array.getElem?_eq_some_iff.1 h2).1 (fun e => ?_)).trans h2,h3⟩
   obtain ⟨_,o,ho,hc⟩:=hrw Bx e.symm
   rw [h2] at ho;cases ho;cases hc)
  ?assign ?body ?done ?stop
 case assign =>
  rintro l pre x W K ⟨⟨⟨bM1,bA1⟩,bE1⟩,hB1,hall⟩ hK
  gi_wp2
  exact hK _ _ ((KeepsOthers.alloc _ _).from _) ((KC.refl _ W).alloc hB1.size _) ⟨⟨⟨bM1.alloc _,bA1.alloc _⟩,bE1.alloc _⟩,hB1.alloc hB1.size _,hall⟩ ⟨W.heap.size,bE1.lt,heap_new W _,rfl⟩
 case body =>
  rintro l pre ⟨⟨k1,nm1,n1,d1,args1,a1⟩,ad1,cap1,hok⟩ a' W hl ⟨r,hr⟩ ⟨⟨⟨bM1,bA1⟩,bE1⟩,hB1,hall⟩ ⟨Bx,hBx,hxb,rfl⟩ hlt
  simp only at hxb
  have cM:=bM1.cell
  obtain ⟨⟨x0,x1,x2,x3,x4,x5⟩,xf⟩:=cells6' hxb
  have hsW:=hB1.size
  by_cases hk2:k1 = 2
  ·subst hk2
   have HC:=hid (askCall_any (w:=W) ⟨2,nm1,n1,d1,args1,a1⟩ ad1 cap1 mb L env (hok.below hB1) (HM.out.below hB1) hE)
   simp only at HC
   cases hck:ckA env args1 with
   | true =>
    rw [hck] at HC
    have hall2:((pre ++ [(⟨⟨2,nm1,n1,d1,args1,a1⟩,ad1,cap1,hok⟩:VX w)]).map (·.e)).all (okE env) = true:=by
     rw [List.map_append,List.all_append,hall];simp [okE,hck]
    gi_wp2_with (refine ⟨trivial,?_⟩;gi_at_call 90;refine (CallsIn.inRound l (callsIn_wide.2 HC.out)).mono ?_;rintro e w2 ⟨he,hb2⟩;obtain rfl:e = .returned (.tuple #[.int .i64 0,.int .i64 0]):=he)
    exact ⟨⟨hb2.size,fun k o _ hk _ => (hb2.block k (lt_of_block hk)).trans hk⟩,(KC.refl _ W).of_below hb2 hsW,⟨⟨⟨(hb2.block _ bM1.lt).trans bM1,(hb2.block _ bA1.lt).trans bA1⟩,(hb2.block _ bE1.lt).trans bE1⟩,hB1.trans (hb2.mono hsW),hall2⟩⟩
   | false =>
    rw [hck] at HC
    have hall2:((pre ++ [(⟨⟨2,nm1,n1,d1,args1,a1⟩,ad1,cap1,hok⟩:VX w)]).map (·.e)).all (okE env) = false:=by
     rw [List.map_append,List.all_append];simp [okE,hck]
    gi_wp2_with (refine ⟨trivial,?_⟩;gi_at_call 90;refine (CallsIn.inRound l (callsIn_wide.2 HC.out)).mono ?_;rintro e w2 ⟨⟨ab,eb,heb,rfl⟩,hb2⟩;have heb':(eb == 0) = false:=beq_eq_false_iff_ne.2 heb;have bA2:Boxed w2 (w.heap.size + 1) 3 (.int .i64 0):=(hb2.block _ bA1.lt).trans bA1;have bE2:Boxed w2 (w.heap.size + 1 + 1) 39 (.int .i64 0):=(hb2.block _ bE1.lt).trans bE1;have cA:=bA2.cell;have fA:=bA2.frozen;have cE:=bE2.cell;have fE:=bE2.frozen)
    exact ⟨(show KeepsFrom W0.heap.size W w2 from ⟨hb2.size,fun k o _ hk _ => (hb2.block k (lt_of_block hk)).trans hk⟩).trans (((KeepsOthers.setCell _ _ _).trans (KeepsOthers.setCell _ _ _)).from _),ab,eb,⟨⟨(bA2.set _).other oq _,(bE2.other oq _).set _⟩,((hB1.trans (hb2.mono hsW)).setCell (p:=⟨w.heap.size + 1,0,none⟩) (by simp) _).setCell (p:=⟨w.heap.size + 1 + 1,0,none⟩) (by simp;omega) _⟩,rfl,heb,hall2⟩
  ·have hk2':(k1 == 2) = false:=beq_eq_false_iff_ne.2 hk2
   have hall2:((pre ++ [(⟨⟨k1,nm1,n1,d1,args1,a1⟩,ad1,cap1,hok⟩:VX w)]).map (·.e)).all (okE env) = true:=by
    rw [List.map_append,List.all_append,hall];simp [okE,hk2]
   gi_wp2
   exact ⟨KeepsFrom.refl _ _,KC.refl _ _,⟨⟨⟨bM1,bA1⟩,bE1⟩,hB1,hall2⟩⟩
 case done =>
  rintro D zs W hD hzs ⟨⟨⟨bM1,bA1⟩,bE1⟩,hB1,hall⟩ hK
  have h1:callsOK env flows = true:=by unfold callsOK;rw [← hzs];exact hall
  have cA:=bA1.cell
  have fA:=bA1.frozen
  have cE:=bE1.cell
  have fE:=bE1.frozen
  gi_wp2
  have hK2:((W.setCell ⟨w.heap.size + 1,0,none⟩ (.int .i64 0)).setCell ⟨w.heap.size + 1 + 1,0,none⟩ (.int .i64 0)).heap[D]? = some (.deferred (some [])):=((KeepsOthers.setCell _ _ _).trans (KeepsOthers.setCell _ _ _)).same D _ hK rfl
  refine ⟨by simp,.inl ⟨_,_,rfl,run_takeDeferred hK2,?_⟩⟩
  have bA3:=(((bA1.set (.int .i64 0)).other (show w.heap.size + 1 ≠ w.heap.size + 1 + 1 by omega) (.int .i64 0)).kept (grownBy_putObj' _ D (.deferred none)) (by intro e;injection e with e;omega)).cell
  have bE3:=(((bE1.other (show w.heap.size + 1 + 1 ≠ w.heap.size + 1 by omega) (.int .i64 0)).set (.int .i64 0)).kept (grownBy_putObj' _ D (.deferred none)) (by intro e;injection e with e;omega)).cell
  refine ⟨.tuple #[.int .i64 0,.int .i64 0],?_,?_,?_⟩
  ·simp only [results,Tryz.results47];go_simp
  ·unfold AskAns;rw [if_pos h1];rfl
  ·exact ((hB1.setCell (p:=⟨w.heap.size + 1,0,none⟩) (by simp) _).setCell (p:=⟨w.heap.size + 1 + 1,0,none⟩) (by simp;omega) _).trans (KC.putObj (n₀:=w.heap.size) _ D _ _ oq hK2 rfl).below
 case stop =>
  rintro D c pre W hD hpre ⟨a,er,⟨⟨bA1,bE1⟩,hB1⟩,rfl,her,hall⟩ hK
  have h1:callsOK env flows = false:=by
   unfold callsOK
   obtain ⟨t,ht⟩:=hpre
   rw [← ht,List.all_append,hall];rfl
  have cA:=bA1.cell
  have fA:=bA1.frozen
  have cE:=bE1.cell
  have fE:=bE1.frozen
  gi_wp2
  refine ⟨by simp,.inl ⟨_,_,rfl,run_takeDeferred hK,?_⟩⟩
  have bA3:=(bA1.kept (grownBy_putObj' _ D (.deferred none)) (by intro e;injection e with e;omega)).cell
  have bE3:=(bE1.kept (grownBy_putObj' _ D (.deferred none)) (by intro e;injection e with e;omega)).cell
  refine ⟨.tuple #[.int .i64 a,.int .i64 er],?_,?_,?_⟩
  ·simp only [results,Tryz.results47];go_simp
  ·unfold AskAns;rw [if_neg (by rw [h1];decide)];exact ⟨a,er,her,rfl⟩
  ·exact hB1.trans (KC.putObj (n₀:=w.heap.size) _ D _ _ oq hK rfl).below
end Go.Proofs.YtpjficjlfibibaaGreatDoor.syn
