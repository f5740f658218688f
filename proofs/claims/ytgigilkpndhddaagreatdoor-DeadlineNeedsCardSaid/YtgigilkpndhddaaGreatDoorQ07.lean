/-
  Parts of the proof: Dl1, Dl2.
-/
import Derived.Deep.DeepCutAuto
import Derived.Shelf.Abstract
import Derived.Sort.CutIn
import Derived.Test.YtgigilkpndhddaaGreatDoorQ00
import Derived.Test.YtgigilkpndhddaaGreatDoorQ05
import Derived.Test.YtgigilkpndhddaaGreatDoorQ06
namespace Go.Proofs.YtgigilkpndhddaaGreatDoor.syn
set_option linter.unusedVariables false
set_option linter.unusedSimpArgs false
set_option linter.unnecessarySimpa false
set_option maxRecDepth 100000
set_option maxHeartbeats 16000000
open Go.RowKit Go.Shelf
attribute [local go_sem] ZT
def KD (b1 b2:Nat) (W W':World):Prop:=∀b,(b=b1∨b=b2)→∀o:Obj,W.heap[b]?=some o→o.isCells=true→W'.heap[b]?=some o
theorem KD.refl (b1 b2:Nat) (W:World):KD b1 b2 W W:=fun _ _ _ h _=>h
theorem KD.trans {b1 b2:Nat} {A B C:World} (h:KD b1 b2 A B) (k:KD b1 b2 B C):KD b1 b2 A C:=fun b hb o ho hc=>k b hb o (h b hb o ho hc) hc
theorem KD.of_below {b1 b2:Nat} {W W':World} (h:Below W.heap.size W W'):KD b1 b2 W W':=fun b _ o ho _=>(h.block b (Zb ho)).trans ho
theorem KD.putObj {b1 b2:Nat} (W:World) (l:Nat) (o o':Obj) (h:W.heap[l]?=some o) (hc:o.isCells=false):KD b1 b2 W (W.putObj l o'):=fun b _ x hx hxc =>
 (World.putObj_heap_other (fun e=>by subst e;rw[h] at hx;injection hx with hx;subst hx;rw[hc] at hxc;cases hxc)).trans hx
theorem KD.of_but {b1 b2:Nat} {S:Nat→Prop} {W W':World} (h:But S W W') (h1:¬S b1) (h2:¬S b2):KD b1 b2 W W':=fun b hb o ho _=>(h.block b (Zb ho) (by rcases hb with rfl|rfl<;>assumption)).trans ho
def UV (W:World) (b:Nat) (per ph:Int):Prop:=W.heap[b]?=some (.cells #[.int .i64 per,.int .i64 ph] 62 (0,0))
theorem Q8 {β:Type} {B:Nat} {J:β→World→Prop} (h:OwnFrom B J) {s:β} {W W':World} (hs:J s W) (hb:Below W.heap.size W W'):J s W' :=
 h s W W' none hs ⟨hb.os,hb.tape,hb.output,hb.size,fun k hk _=>hb.block k hk⟩ (fun r e=>by cases e)
theorem jE {per ph u:Int} (hp:1≤per) (h0:0≤ph):((JD per ph u:Nat):Int)≤max u 0:=by
 unfold JD
 split
 ·omega
 rename_i h
 have h1:=Int.ediv_le_self per (show 0≤u-1-ph by omega)
 have h2:=Int.ediv_nonneg (show 0≤u-1-ph by omega) (show 0≤per by omega)
 omega
theorem vX (per ph u:Int) (hr:1≤per∧per≤2000∧0≤ph∧ph≤2000) (hu:u≤20000) (b1 b2 n l:Nat) (J:List Nat→World→Prop) (W:World) (hJ:OwnFrom W.heap.size J)
  (hY:∀m pre (x:Nat) W1,J pre W1→(x=pre.length∧x<JD per ph u)→YieldAt Fence.wide m Tryz.prog l #[.int .i64 (x:Int),.int .i64 (ph+(x:Int)*per)] W1 fun e W'=>e=.returned (.bool true)∧J (pre++[x]) W'∧KD b1 b2 W1 W')
  (hb1:UV W b1 per ph) (hb2:Boxed W b2 2 (.int .i64 u)) (h0:J [] W) :
  CallsIn Fence.wide n Tryz.prog 108 #[.func (.yield l) #[] #[],.pointer (some ⟨b1,0,none⟩),.pointer (some ⟨b2,0,none⟩)] W fun e W'=>(∃v,e=.returned v)∧∃xs,xs=List.range (JD per ph u)∧J xs W':=by
 obtain⟨cnt,hcnt⟩:∃cnt,JD per ph u=cnt:=⟨_,rfl⟩
 have hlt:∀k:Nat,k<cnt↔ph+(k:Int)*per<u:=fun k=>by rw[←hcnt];exact Qz hr.1 k
 have hle:(cnt:Int)≤20000:=by have:=jE (u:=u) hr.1 hr.2.2.1;rw[hcnt] at this;omega
 have HLT:=hid hlt
 rw[hcnt] at hY ⊢
 have HY:=hid hY
 have HD:=hid (fun(W:World) (k:Nat) (hk:(k:Int)≤20000)=>clock.e9 per ph (k:Int) W hr oq oq)
 have HB1:=hid hb1
 have HB2:=hid hb2
 have HJ0:=hid h0
 have HJ:=hid hJ
 clear hY hb1 hb2 h0 hJ hr hcnt hlt
 refine callsIn_of_wp Tryz.func108 rfl trivial ?_ rfl
 simp only[Tryz.ntmps108,ZI,Zp,Zw,Nat.reduceAdd,Nat.reduceSub,ZF,ZE,ZL,ZJ,ZM,ZC]
 gi_wp2
 gi_loopw [4] (fun v wr=>Hid (∃k:Nat,v=.int .i64 (k:Int)∧k≤cnt∧J (List.range k) wr∧KD b1 b2 W wr)) (fun i _=>cnt-(intOf i).toNat)
 case atStart=>exact⟨0,rfl,Zk _,HJ0.out,KD.refl _ _ _⟩
 obtain⟨k,rfl,hk,hj,hkd⟩:=hrel.out
 clear hrel
 have q1:wr.heap[b1]?=_:=hkd b1 (.inl rfl) _ HB1.out rfl
 have q2:wr.heap[b2]?=_:=hkd b2 (.inr rfl) _ HB2.out rfl
 obtain⟨⟨x0,x1⟩,xf⟩:=YB q1
 have Q2:=hid q2
 have HKD:=hid hkd
 have HJK:=hid hj
 have HC:=hid (fun W=>HD.out W k oq)
 clear q1 q2 hkd hj
 by_cases hc:k<cnt
 ·have hd:=(HLT.out k).1 hc
  obtain⟨d,hde⟩:∃d,ph+(k:Int)*per=d:=⟨_,rfl⟩
  have HY2:=hid (fun(W1:World) (hb:Below wr.heap.size wr W1)=>HY.out (n-1) (List.range k) k W1 (Q8 HJ.out HJK.out hb) ⟨by simp,hc⟩)
  rw[hde] at HY2 HC hd
  have hd1:¬u≤d:=oq
  have hd2:decide (u≤d)=false:=ZZ hd1
  clear hde
  gi_wp2_with (refine⟨trivial,(fun h=>by cases h),?_⟩;gi_at_call 109;refine(Zt.2 (HC.out _)).mono ?_;rintro e w2 ⟨rfl,hb2⟩;obtain⟨fn,tmps,assign,body,hy,hR⟩:=HY2.out _ hb2;have HR:=hid hR;have HB2:=hid hb2;have z2:w2.cell? ⟨b2,0,none⟩=some (.int .i64 u):=Boxed.cell (t:=2) ((hb2.block _ (Zb Q2.out)).trans Q2.out);clear hR hb2)
  refine⟨(fun h=>by cases h),HR.out.mono ?_⟩
  rintro e W1 ⟨rfl,hJ1,hk1⟩
  have HJ1:=hid hJ1
  have HK1:=hid ((HKD.out.trans (KD.of_below HB2.out)).trans hk1)
  clear hJ1 hk1
  gi_wp2
  go_roundw
  case rel=>exact⟨k+1,by go_num,hc,by rw[List.range_succ];exact HJ1.out,HK1.out⟩
  simp[intOf];omega
 obtain rfl:k=cnt:=oq
 have hd:¬(ph+(k:Int)*per<u):=fun h=>hc ((HLT.out k).2 h)
 obtain⟨d,hde⟩:∃d,ph+(k:Int)*per=d:=⟨_,rfl⟩
 rw[hde] at HC hd
 have hd1:u≤d:=oq
 have hd2:decide (u≤d)=true:=Z0 hd1
 clear hde hd hc
 gi_wp2_with (refine⟨trivial,(fun h=>by cases h),?_⟩;gi_at_call 109;refine(Zt.2 (HC.out _)).mono ?_;rintro e w2 ⟨rfl,hb2⟩;have HB2:=hid hb2;have z2:w2.cell? ⟨b2,0,none⟩=some (.int .i64 u):=Boxed.cell (t:=2) ((hb2.block _ (Zb Q2.out)).trans Q2.out);clear hb2)
 refine⟨(fun f h=>by cases h),?_⟩
 gi_wp2
 refine Zl (results_none rfl _ _ _) rfl ?_
 exact⟨⟨_,rfl⟩,_,rfl,Q8 HJ.out HJK.out HB2.out⟩
theorem UG (per ph u:Int) (hr:1≤per∧per≤2000∧0≤ph∧ph≤2000) (hu:u≤20000) (b1 b2 n:Nat) (w:World) (hb1:UV w b1 per ph) (hb2:Boxed w b2 2 (.int .i64 u)) :
  Zbl Fence.wide n Tryz.prog 108 #[.pointer (some ⟨b1,0,none⟩),.pointer (some ⟨b2,0,none⟩)] (fun x:Nat=>#[.int .i64 (x:Int),.int .i64 (ph+(x:Int)*per)]) (fun _=>True) (fun pre x _=>x=pre.length∧x<JD per ph u) (KD b1 b2) (fun xs=>xs=List.range (JD per ph u)) w:=fun l J W hW hJ _ hY h0 =>
 vX per ph u hr hu b1 b2 n l J W hJ (fun m pre x W1 hj ho=>YieldAt.deep rfl m (hY pre x W1 hj ho)) ((hW.block _ (Zb hb1)).trans hb1) ((hW.block _ hb2.lt).trans hb2) h0
theorem UO {w:World} (per ph u:Int):Calls Tryz.prog 65 #[.agg #[.int .i64 per,.int .i64 ph],.int .i64 u] w fun e w'=>e=.returned (.func (.func 108) #[] #[.pointer (some ⟨w.heap.size,0,none⟩),.pointer (some ⟨w.heap.size+1,0,none⟩)])∧Below w.heap.size w w'∧w'.heap.size=w.heap.size+2∧UV w' w.heap.size per ph∧Boxed w' (w.heap.size+1) 2 (.int .i64 u):=by
 go_enter Tryz.func65,Tryz.ntmps65
 go_wp2
 go_ret
 refine⟨by simp,bq,by simp,(Za _ _ _ (by simp)).trans (Yp w _),?_⟩
 have:=Boxed.new (w.alloc (.cells #[.int .i64 per,.int .i64 ph] 62)) 2 (.int .i64 u)
 simpa using this
attribute [local go_sem] ZT
def QJ (f:FD) (u:Int) (i:Nat):Nat:=((List.range i).map (Qg f u)).sum
theorem Gf (f:FD) (u:Int) (i:Nat):QJ f u (i+1)=QJ f u i+Qg f u i:=by unfold QJ;rw[List.range_succ,ZU,List.sum_append];simp
def Ec (f:FD):Prop:=∀t,t<f.tasks.length→1≤(tkO f t).per∧(tkO f t).per≤2000∧0≤(tkO f t).ph∧(tkO f t).ph≤2000
theorem Kx {f:FD} {u:Int} (hc:Ec f) (hu:u≤20000) {t:Nat} (ht:t<f.tasks.length):Qg f u t≤20000:=by
 have h:=hc t ht
 have:=jE (u:=u) h.1 h.2.2.1
 unfold Qg
 omega
theorem yC {f:FD} {u:Int} (hc:Ec f) (hu:u≤20000):∀i,i≤f.tasks.length→QJ f u i≤i*20000
 | 0,_=>by simp[QJ]
 | i+1,h=>by
  rw[Gf]
  have h1:=yC hc hu i oq
  have h2:=Kx hc hu (t:=i) oq
  omega
theorem GM {f:FD} {w:World} {aT:Option Addr} (h:Row ge 4 w f.tasks aT) {i:Nat} (hi:i<f.tasks.length):∃b o ad cap,aT=some ⟨b,o,none⟩∧b<w.heap.size∧w.cell? ⟨b,o+i*4,none⟩=some (.int .i64 (tkO f i).node)∧w.cell? ⟨b,o+i*4+1,none⟩=some (.int .i64 (tkO f i).per)∧w.cell? ⟨b,o+i*4+2,none⟩=some (.int .i64 (tkO f i).ph)∧w.cell? ⟨b,o+i*4+3,none⟩=some (.slice ad (tkO f i).args.length cap)∧Row qb 2 w (tkO f i).args ad:=by
 obtain⟨b,o,rfl,hb,h0,h1,h2,ad,cap,h3,h4⟩:=h.at hi
 rw[VL hi] at h0 h1 h2 h3 h4
 exact⟨b,o,ad,cap,rfl,hb,h0,h1,h2,h3,h4⟩
theorem xH {w:World} (f:FD) (ai an aT al:Option Addr) (ci cn ct cl:Nat) (hf:FAP w f ai an aT al) (hc:Ec f) (hT:f.tasks.length≤30) (u:Int) (hu:u≤20000) :
  Calls Tryz.prog 23 #[fv f ai an aT al ci cn ct cl,.int .i64 u] w fun x w'=>x=.returned (.bool (decide (4000<QJ f u f.tasks.length)))∧Below w.heap.size w w':=by
 have HTK:=hid hf.tasks
 have HCK:=hid hc
 have HML:=hid (yC hc hu)
 have HCL:=hid (fun t ht=>Kx (t:=t) hc hu ht)
 clear hf hc
 unfold fv
 obtain⟨T,hTT⟩:∃T,f.tasks.length=T:=⟨_,rfl⟩
 rw[hTT] at hT HML HCL ⊢
 have HTT:=hid hTT
 clear hTT
 refine(Zt (n:=6)).1 ?_
 refine callsIn_of_wp_marks Tryz.func23 rfl trivial ?_ rfl
 simp only[Tryz.ntmps23,ZI,Zp,Zw,Nat.reduceAdd,Nat.reduceSub,ZF,ZE,ZL,ZJ,ZM,ZC]
 gi_wp2
 obtain⟨W0,hW0⟩:∃W0,(w.alloc (.cells #[.slice ai f.ins.length ci,.slice an f.nods.length cn,.slice aT T ct,.slice al f.tells.length cl] 34)).alloc (.cells #[.int .i64 0] 3)=W0:=⟨_,rfl⟩
 have hB0:Below w.heap.size w W0:=by rw[←hW0];exact bq
 have hbm:Boxed W0 (w.heap.size+1) 3 (.int .i64 0):=by
  rw[←hW0]
  have:=Boxed.new (w.alloc (.cells #[.slice ai f.ins.length ci,.slice an f.nods.length cn,.slice aT T ct,.slice al f.tells.length cl] 34)) 3 (.int .i64 0)
  simpa using this
 try simp only[Zu]
 rw[hW0]
 have HB0:=hid hB0
 have HBM:=hid hbm
 clear hW0 hB0 hbm
 refine wpIn_loop (fun a' wr=>Hid (∃(i:Nat) (ds:List Deferred),a'.defers=ds∧a'.tmps.size=26∧slt a'.tmps 1=.int .i64 u∧slt a'.tmps 2=.pointer (some ⟨w.heap.size,0,none⟩)∧slt a'.tmps 4=.bool false∧slt a'.tmps 5=.pointer (some ⟨w.heap.size+1,0,none⟩)∧slt a'.tmps 9=.slice aT T ct∧slt a'.tmps 10=.int .i64 (T:Int)∧slt a'.tmps 11=.int .i64 (i:Int) ∧
  i≤T∧Boxed wr (w.heap.size+1) 3 (.int .i64 (QJ f u i:Int))∧Below w.heap.size w wr∧Mk w.heap.size wr.heap.size ds wr)) (fun a' _=>T-(intOf (slt a'.tmps 11)).toNat) ?start ?round
 case start=>exact hid ⟨0,_,rfl,rfl,rfl,rfl,rfl,rfl,rfl,rfl,rfl,Zk _,HBM.out,HB0.out,Mk.nil _ _ _⟩
 clear HB0 HBM
 rintro⟨t,ds0⟩ wr hI
 obtain⟨i,ds,h0,hsz,h1,h2,h4,h5,h9,h10,h11,hi,hbx,hbw,hmk⟩:=hI.out
 clear hI
 simp only at h0 hsz h1 h2 h4 h5 h9 h10 h11
 subst h0
 have hmu:(T-(intOf (slt (⟨t,ds0⟩:Act).tmps 11)).toNat)=T-i:=by show T-(intOf (slt t 11)).toNat=_;rw[h11];simp[intOf]
 rw[hmu]
 clear hmu
 rw[gQ hsz,h1,h2,h4,h5,h9,h10,h11]
 generalize slt t 0=u0,slt t 3=u3,slt t 6=u6,slt t 7=u7,slt t 8=u8,slt t 12=u12,slt t 13=u13,slt t 14=u14,slt t 15=u15,slt t 16=u16,slt t 17=u17,slt t 18=u18,slt t 19=u19,slt t 20=u20,slt t 21=u21,slt t 22=u22,slt t 23=u23,slt t 24=u24,slt t 25=u25
 clear hsz h1 h2 h4 h5 h9 h10 h11 t
 have HBW:=hid hbw
 have HMK:=hid hmk
 have hszw:=hbw.size
 have HBX:=hid hbx
 have hml:=HML.out i hi
 clear hmk hbx
 by_cases hlt:i<T
 ·obtain⟨b,o,ad,cap,rfl,hb,y0,y1,y2,y3,_⟩:=GM (HTK.out.below Gq hbw) (i:=i) (by rw[HTT.out];exact hlt)
  have hck:=HCK.out i (by rw[HTT.out];exact hlt)
  have hcl:=HCL.out i hlt
  have hms:=hid (Gf f u i)
  obtain⟨tk,htk⟩:∃tk,tkO f i=tk:=⟨_,rfl⟩
  have HCN:=hid (show Qg f u i=JD tk.per tk.ph u by unfold Qg;rw[htk])
  rw[htk] at y0 y1 y2 y3 hck
  obtain⟨node,per,ph,args⟩:=tk
  simp only at y0 y1 y2 y3 hck HCN
  have HCK2:=hid hck
  have i1:(i:Int)<(T:Int):=oq
  have HDA:=hid (fun W=>UO (w:=W) per ph u)
  clear htk hbw hck
  gi_wp2_with (refine⟨trivial,?_⟩;gi_at_call 65;refine(Zt.2 (HDA.out _)).mono ?_;rintro e w2 ⟨rfl,hb2,hs2,hk2,hu2⟩;have HB2:=hid hb2;have HS2:=hid hs2;have HK2:=hid (Zh hk2 hu2);clear hb2 hs2 hk2 hu2)
  clear y0 y1 y2 y3
  have hb2:=HB2.out
  have hsz2:=hb2.size
  have hs2:=HS2.out
  simp only[Zu] at hsz2 hs2 ⊢
  have hbw2:Below w.heap.size w w2:=HBW.out.trans ((Zg _ wr).alloc hszw _ |>.trans (hb2.mono (by simp;omega)))
  have hbx2:Boxed w2 (w.heap.size+1) 3 (.int .i64 (QJ f u i:Int)):=(hb2.block _ (by simp;have:=HBX.out.lt;omega)).trans (HBX.out.alloc _)
  have hmk2:Mk w.heap.size wr.heap.size ds0 w2:=HMK.out.keep (fun k o _ _ hk _=>(hb2.block k (by simp;have:=Zb hk;omega)).trans ((Za _ _ _ (Zb hk)).trans hk))
  have hlb:=hbx2.lt
  have hlw:=HBX.out.lt
  have HK2':=HK2.out
  simp only[Zu] at HK2'
  have HI2:=hid (Zh hbw2 (Zh hbx2 hmk2))
  clear hb2 hbw2 hbx2 hmk2
  refine GT (F:=Fence.wide) (gf:=108) (lb:=#[.pointer (some ⟨wr.heap.size+1,0,none⟩),.pointer (some ⟨wr.heap.size+1+1,0,none⟩)]) rfl oq rfl trivial (enters_of Tryz.func108 kq rfl)
   (UG per ph u HCK2.out hu (wr.heap.size+1) (wr.heap.size+1+1) _ w2 HK2'.1 HK2'.2) (fun h k=>h.trans k) (fun W l o o' _ h hc=>KD.putObj W l o o' h hc) (fun W W' h=>KD.of_below h) (fun _=>rfl)
   (fun pre W=>Boxed W (w.heap.size+1) 3 (.int .i64 ((QJ f u i+pre.length:Nat):Int))∧Below w.heap.size w W∧Mk w.heap.size wr.heap.size ds0 W)
   (fun s A B row hs hg hrw=>⟨boxed_own _ _ (fun(_:Unit)=>Value.int .i64 ((QJ f u i+s.length:Nat):Int)) () A B row hs.1 hg (fun r e=>(hrw r e).2),ownFrom_below (β:=Unit) (Zc _) (show w.heap.size≤w2.heap.size by omega) () A B row hs.2.1 hg hrw,Mk.own (β:=Unit) (show wr.heap.size≤w2.heap.size by omega) () A B row hs.2.2 hg hrw⟩)
   (fun _ _ _=>trivial) ⟨HI2.out.2.1,HI2.out.1,HI2.out.2.2⟩
   (fun pre x a' _=>pre.length<JD per ph u∧a'.tmps.size=26∧slt a'.tmps 5=.pointer (some ⟨w.heap.size+1,0,none⟩)∧a'.defers=[])
   (fun pre x a' s A B row hs _ _=>hs) ?assign ?body ?done
  case assign =>
   rintro l pre x W K hi ⟨rfl,hx⟩ hK
   gi_wp2
   exact hK _ _ (Zg _ _) hi ⟨hx,by simp,by simp[slt],rfl⟩
  case body =>
   rintro l pre x ⟨t,d⟩ W hl hr ⟨hb1,hb2,hb3⟩ ⟨hx,hsz,h5,hd⟩
   simp only at hsz h5 hd
   subst hd
   rw[gQ hsz,h5]
   generalize slt t 0=u0,slt t 1=u1,slt t 2=u2,slt t 3=u3,slt t 4=u4,slt t 6=u6,slt t 7=u7,slt t 8=u8,slt t 9=u9,slt t 10=u10,slt t 11=u11,slt t 12=u12,slt t 13=u13,slt t 14=u14,slt t 15=u15,slt t 16=u16,slt t 17=u17,slt t 18=u18,slt t 19=u19,slt t 20=u20,slt t 21=u21,slt t 22=u22,slt t 23=u23,slt t 24=u24,slt t 25=u25
   clear hsz h5
   rw[HCN.out] at hcl
   have c1:=hb1.cell
   have c1f:=hb1.frozen
   have c1l:=hb1.lt
   have HB1:=hid hb1
   obtain⟨m,hm⟩:∃m:Int,((QJ f u i+pre.length:Nat):Int)=m:=⟨_,rfl⟩
   have hm1:0≤m:=oq
   have hm2:m≤1000000:=oq
   rw[hm] at c1 HB1
   have HM:=hid hm
   clear hm hb1
   gi_wp2
   refine⟨(KeepsOthers.setCell _ _ _).from _,KD.of_but (show But (fun k=>k=w.heap.size+1) W _ from But.set (S:=fun k=>k=w.heap.size+1) rfl _) oq oq,?_,hb2.setCell (p:=⟨w.heap.size+1,0,none⟩) (by simp) _,hb3.from ((KeepsOthers.setCell _ _ _).from _)⟩
   have hm3:((QJ f u i+(pre++[x]).length:Nat):Int)=m+1:=by rw[←HM.out];simp;omega
   rw[hm3]
   exact HB1.out.set _
  rintro D xs W hD rfl ⟨hb1,hb2,hb3⟩ hk
  rw[List.length_range,←HCN.out,←hms.out] at hb1
  gi_wp2
  refine⟨hid ⟨i+1,_,rfl,rfl,rfl,rfl,rfl,rfl,rfl,rfl,by first|(simp[slt];done)|(simp[slt];go_num),hlt,hb1,hb2,hb3.cons oq oq hk⟩,?_⟩
  simp[slt,intOf]
  omega
 obtain rfl:i=T:=oq
 have c1:=HBX.out.cell
 have c1f:=HBX.out.frozen
 have i1:¬(i:Int)<(i:Int):=oq
 clear hbw
 gi_wp2
 refine HMK.out.leaves (fun W' hW'=>⟨.bool (decide (4000<(QJ f u i:Int))),?_,?_⟩)
 ·simp only[results,Tryz.results23];go_simp
 exact⟨by rw[show decide (4000<(QJ f u i:Int))=decide (4000<QJ f u i) from decide_eq_decide.2 oq],HBW.out.trans (hW'.below)⟩
end Go.Proofs.YtgigilkpndhddaaGreatDoor.syn
