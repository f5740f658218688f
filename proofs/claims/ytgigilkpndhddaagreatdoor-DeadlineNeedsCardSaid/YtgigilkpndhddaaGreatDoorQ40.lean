/-
  Parts of the proof: Dw3, Dw4, Flt14.
-/
import Derived.Test.YtgigilkpndhddaaGreatDoorQ27
import Derived.Test.YtgigilkpndhddaaGreatDoorQ39
namespace Go.Proofs.YtgigilkpndhddaaGreatDoor.syn
set_option linter.unusedVariables false
set_option linter.unusedSimpArgs false
set_option linter.unnecessarySimpa false
set_option maxRecDepth 100000
set_option maxHeartbeats 16000000
open Go.RowKit Go.Sort Go.Shelf
attribute [local go_sem] ZT
theorem ZbO {t:Array Value} (h:t.size=46):t=#[slt t 0,slt t 1,slt t 2,slt t 3,slt t 4,slt t 5,slt t 6,slt t 7,slt t 8,slt t 9,slt t 10,slt t 11,slt t 12,slt t 13,slt t 14,slt t 15,slt t 16,slt t 17,slt t 18,slt t 19,slt t 20,slt t 21,slt t 22,slt t 23,slt t 24,slt t 25,slt t 26,slt t 27,slt t 28,slt t 29,slt t 30,slt t 31,slt t 32,slt t 33,slt t 34,slt t 35,slt t 36,slt t 37,slt t 38,slt t 39,slt t 40,slt t 41,slt t 42,slt t 43,slt t 44,slt t 45]:=Jn h
theorem Gh:(Tryz.prog.info? 62).map (fun i=>(i.zero,i.size,i.bytes))=some (some (.agg #[.int .i64 0,.int .i64 0]),2,16):=by kernel_rfl
def WI (n s:Nat) (ai:Option Addr) (bt:Nat) (w:World) (pre:List Unit) (W:World):Prop :=
 Boxed W s 2 (.int .i64 (if pre.length=0 then 0 else 5))∧Boxed W (s+1) 2 (.int .i64 (if pre.length=0 then 1 else 4))∧vp W n ai (some ⟨bt,0,none⟩)∧Boxed W (n+1) 2 (.int .i64 0)∧Boxed W (n+1+1) 2 (.int .i64 0)∧Boxed W (n+1+1+1) 38 (.int .i64 0)∧RowKit.Below w.heap.size w W
theorem WI.below {n s:Nat} {ai:Option Addr} {bt:Nat} {w W W':World} {pre:List Unit} (h:WI n s ai bt w pre W) (hb:RowKit.Below W.heap.size W W'):WI n s ai bt w pre W':=by
 obtain⟨h1,h2,h3,h4,h5,h6,h7⟩:=h
 exact⟨(hb.block _ (Boxed.lt h1)).trans h1,(hb.block _ (Boxed.lt h2)).trans h2,(hb.block _ (Zb h3)).trans h3,(hb.block _ (Boxed.lt h4)).trans h4,(hb.block _ (Boxed.lt h5)).trans h5,(hb.block _ (Boxed.lt h6)).trans h6,h7.trans (hb.mono h7.size)⟩
theorem WI.own {n s:Nat} {ai:Option Addr} {bt:Nat} {w:World} {base:Nat} (hb:w.heap.size≤base):OwnFrom base (WI n s ai bt w):=fun p A B row h hg hrw=>by
 obtain⟨h1,h2,h3,h4,h5,h6,h7⟩:=h
 exact⟨Xf h1 hg (fun r e=>(hrw r e).2),Xf h2 hg (fun r e=>(hrw r e).2),Xf h3 hg (fun r e=>(hrw r e).2),Xf h4 hg (fun r e=>(hrw r e).2),Xf h5 hg (fun r e=>(hrw r e).2),Xf h6 hg (fun r e=>(hrw r e).2),ownFrom_below (β:=Unit) (Zc _) hb () A B row h7 hg hrw⟩
def S13 (s:Nat) (w':World):Prop:=w'.cell? ⟨s,0,none⟩=some (.int .i64 5)∧w'.cell? ⟨s+1,0,none⟩=some (.int .i64 4)
theorem S13.set {s b o:Nat} {v:Value} {w':World} (hb:b<s) (h:S13 s w'):S13 s (w'.setCell ⟨b,o,none⟩ v):=⟨(ZG w' ⟨b,o,none⟩ ⟨s,0,none⟩ v (by show b≠s;omega)).trans h.1,(ZG w' ⟨b,o,none⟩ ⟨s+1,0,none⟩ v (by show b≠s+1;omega)).trans h.2⟩
theorem vk {w:World} {base:Nat} {e:TypeId} {v a b c d:Value} (h:w.ownsRow base e 2 v (1+1) ([a,b]++[c,d])):∃g cap,v=.slice (some ⟨g,0,none⟩) 2 cap∧base≤g∧g<w.heap.size∧w.cell? ⟨g,0,none⟩=some a∧w.cell? ⟨g,1,none⟩=some b∧w.cell? ⟨g,2,none⟩=some c∧w.cell? ⟨g,3,none⟩=some d:=by
 rcases h.2 with ⟨_,hz⟩|⟨g,cap,cur,rfl,hg,hh,_⟩
 ·cases hz
 have hn:=kX h
 refine⟨g,cap,rfl,hg,Zb hh,?_,?_,?_,?_⟩
 ·obtain⟨x,hx,hc⟩:=hn 0 a rfl
  injection hx with hx;subst hx;simpa [Addr.add] using hc
 ·obtain⟨x,hx,hc⟩:=hn 1 b rfl
  injection hx with hx;subst hx;simpa [Addr.add] using hc
 ·obtain⟨x,hx,hc⟩:=hn 2 c rfl
  injection hx with hx;subst hx;simpa [Addr.add] using hc
 obtain⟨x,hx,hc⟩:=hn 3 d rfl
 injection hx with hx;subst hx;simpa [Addr.add] using hc
theorem vh {w:World} (g cap:Nat) (hg:g<w.heap.size) (h0:w.cell? ⟨g,0,none⟩=some (.int .i64 4)) (h1:w.cell? ⟨g,1,none⟩=some (.int .i64 3)) (h2:w.cell? ⟨g,2,none⟩=some (.int .i64 1)) (h3:w.cell? ⟨g,3,none⟩=some (.int .i64 0)) :
  Calls Tryz.prog 32 #[.slice (some ⟨g,0,none⟩) 2 cap] w fun e w'=>e=.returned (.tuple #[.int .i64 4,.int .i64 0])∧RowKit.Below w.heap.size w w':=by
 have:=clock.qd [(4,3),(1,0)] g 0 cap w (by simp) hg (by
  intro k hk
  match k,hk with
  | 0,_=>exact⟨h0,h1⟩
  | 1,_=>exact⟨h2,h3⟩) (by
  intro k hk
  match k,hk with
  | 0,_=>exact⟨by decide,by decide,by decide,by decide⟩
  | 1,_=>exact⟨by decide,by decide,by decide,by decide⟩)
 rw[show clock.YV 1 [(4,3),(1,0)]=some 4 from by decide +kernel] at this
 exact this
theorem UL {W:World} {b c o:Nat} {t:TypeId} {v u:Value} (h:Boxed W b t v) (hb:b≠c):Boxed (W.setCell ⟨c,o,none⟩ u) b t v:=(RowKit.Below.heap_setCell W ⟨c,o,none⟩ u b hb).trans h
theorem gR {W6 w9:World} {b:Nat} {cs:Array Value} {t:TypeId} (o:Obj) (hq:W6.heap[b]?=some (.cells cs t (0,0))) (hg:(W6.alloc o).grownBy w9 (Value.slice (some ⟨b,0,none⟩) 1 1).ownBlock):KeepsOthers W6 w9:=(KeepsOthers.alloc W6 o).trans (KeepsOthers.of_grownBy hg (fun j o2 hj ho=>by
 injection hj with hj
 subst hj
 have h2:=(RowKit.Below.heap_alloc W6 o b (Zb hq)).trans hq
 rw[h2] at ho
 injection ho with ho
 subst ho
 rfl))
theorem KO.of_below {W W':World} (h:RowKit.Below W.heap.size W W'):KeepsOthers W W':=⟨h.size,fun k o ho _=>(h.block k (Zb ho)).trans ho⟩
theorem jx {w:World} (ai:Option Addr) (bt:Nat) (hf:FAP w fdA ai none none (some ⟨bt,0,none⟩)) (ht:EF w bt) :
  Calls Tryz.prog 11 #[fv fdA ai none none (some ⟨bt,0,none⟩) 1 0 0 1] w fun x w'=>x=.returned (.tuple #[.int .i64 5,.int .i64 4,.int .i64 0])∧RowKit.Below w.heap.size w w':=by
 have HRI:=hid (fun W (hb:RowKit.Below w.heap.size w W)=>Vn (w:=W) fdA ai none none (some ⟨bt,0,none⟩) 1 0 0 1 (hf.below hb))
 have HCO:=hid (fun W (hb:RowKit.Below w.heap.size w W)=>EY (w:=W) ai (some ⟨bt,0,none⟩) (hf.below hb))
 rw[uE] at HRI
 have HT:=hid ht
 have hbt:=Zb ht
 unfold fv fdA at *
 simp only[Zp,Zw,ZD] at HRI HCO
 simp only[Zp,Zw,ZD]
 clear hf ht
 refine(Zt (n:=6)).1 ?_
 refine callsIn_of_wp_marks Tryz.func11 rfl trivial ?_ rfl
 simp only[Tryz.ntmps11,ZI,Zp,Zw,Nat.reduceAdd,Nat.reduceSub,ZF,ZE,ZL,ZJ,ZM,ZC]
 gi_upto_region 1 with fail
 obtain⟨W1,hW1⟩:∃W1,(((w.alloc (.cells #[.slice ai 1 1,.slice none 0 0,.slice none 0 0,.slice (some ⟨bt,0,none⟩) 1 1] 34)).alloc (.cells #[.int .i64 0] 2)).alloc (.cells #[.int .i64 0] 2)).alloc (.cells #[.int .i64 0] 38)=W1:=⟨_,rfl⟩
 have hB:RowKit.Below w.heap.size w W1:=by rw[←hW1];exact bq
 have hx0:vp W1 w.heap.size ai (some ⟨bt,0,none⟩):=by rw[←hW1];exact(RowKit.Below.heap_alloc _ _ _ (by simp;omega)).trans ((RowKit.Below.heap_alloc _ _ _ (by simp;omega)).trans ((RowKit.Below.heap_alloc _ _ _ (by simp)).trans (Yp w _)))
 have hx1:Boxed W1 (w.heap.size+1) 2 (.int .i64 0):=by rw[←hW1];have:=((Boxed.new (w.alloc (.cells #[.slice ai 1 1,.slice none 0 0,.slice none 0 0,.slice (some ⟨bt,0,none⟩) 1 1] 34)) 2 (.int .i64 0)).alloc (.cells #[.int .i64 0] 2)).alloc (.cells #[.int .i64 0] 38);rwa [Zu] at this
 have hx2:Boxed W1 (w.heap.size+1+1) 2 (.int .i64 0):=by rw[←hW1];have:=(Boxed.new ((w.alloc (.cells #[.slice ai 1 1,.slice none 0 0,.slice none 0 0,.slice (some ⟨bt,0,none⟩) 1 1] 34)).alloc (.cells #[.int .i64 0] 2)) 2 (.int .i64 0)).alloc (.cells #[.int .i64 0] 38);rwa [Zu,Zu] at this
 have hx3:Boxed W1 (w.heap.size+1+1+1) 38 (.int .i64 0):=by rw[←hW1];have:=Boxed.new (((w.alloc (.cells #[.slice ai 1 1,.slice none 0 0,.slice none 0 0,.slice (some ⟨bt,0,none⟩) 1 1] 34)).alloc (.cells #[.int .i64 0] 2)).alloc (.cells #[.int .i64 0] 2)) 38 (.int .i64 0);rwa [Zu,Zu,Zu] at this
 rw[hW1]
 clear hW1
 obtain⟨⟨x0,x1,x2,x3⟩,xf⟩:=Yq hx0
 have HB:=hid hB
 have HX:=hid (Zh hx0 (Zh hx1 (Zh hx2 hx3)))
 clear hB hx0 hx1 hx2 hx3
 gi_upto_region 3 with (refine⟨trivial,?_⟩;gi_at_call 21;refine(Zt.2 (HRI.out _ HB.out)).mono ?_;rintro e w2 ⟨rfl,hb2⟩;have HB2:=hid hb2;clear hb2)
 gi_upto_region 4 with fail
 clear x0 x1 x2 x3 xf
 have hb2:=HB2.out
 have HX2:=hid (Zh ((hb2.block _ (Zb HX.out.1)).trans HX.out.1) (Zh ((hb2.block _ HX.out.2.1.lt).trans HX.out.2.1) (Zh ((hb2.block _ HX.out.2.2.1.lt).trans HX.out.2.2.1) ((hb2.block _ HX.out.2.2.2.lt).trans HX.out.2.2.2))))
 obtain⟨W3,hW3⟩:∃W3,(w2.alloc (.cells #[.int .i64 0] 2)).alloc (.cells #[.int .i64 1] 2)=W3:=⟨_,rfl⟩
 have hB3:RowKit.Below w2.heap.size w2 W3:=by rw[←hW3];exact bq
 have hs0:Boxed W3 w2.heap.size 2 (.int .i64 0):=by rw[←hW3];exact(Boxed.new w2 2 (.int .i64 0)).alloc _
 have hs1:Boxed W3 (w2.heap.size+1) 2 (.int .i64 1):=by rw[←hW3];have:=Boxed.new (w2.alloc (.cells #[.int .i64 0] 2)) 2 (.int .i64 1);rwa [Zu] at this
 rw[hW3]
 clear hW3
 have HI3:=hid (show WI w.heap.size w2.heap.size ai bt w [] W3 from ⟨hs0,hs1,(hB3.block _ (Zb HX2.out.1)).trans HX2.out.1,(hB3.block _ (Boxed.lt HX2.out.2.1)).trans HX2.out.2.1,(hB3.block _ (Boxed.lt HX2.out.2.2.1)).trans HX2.out.2.2.1,(hB3.block _ (Boxed.lt HX2.out.2.2.2)).trans HX2.out.2.2.2,HB.out.trans ((hb2.trans (hB3.mono hb2.size)).mono HB.out.size)⟩)
 have hsz2:w.heap.size+1+1+1<w2.heap.size:=by have:=HX.out.2.2.2.lt;have:=hb2.size;omega
 have hsz3:=hs1.lt
 clear hs0 hs1 hb2 hB3
 obtain⟨⟨x0,x1,x2,x3⟩,xf⟩:=Yq HI3.out.2.2.1
 gi_wp2_with (refine⟨trivial,?_⟩;gi_at_call 29;refine(Zt.2 (yv _ _ _ _ _ rfl)).mono ?_;rintro e w4 ⟨rfl,hb4,hs4,hq4⟩;have HB4:=hid hb4;have HQ4:=hid hq4;have HS4:=hid hs4;clear hb4 hs4 hq4)
 have hs4:=HS4.out
 have hT4:EF w4 bt:=(HB4.out.block _ oq).trans ((HI3.out.2.2.2.2.2.2.block _ hbt).trans HT.out)
 have HT4:=hid hT4
 have HI4:=hid (HI3.out.below HB4.out)
 clear x0 x1 x2 x3 xf hT4
 refine GT (F:=Fence.wide) (gf:=75) (lb:=#[.pointer (some ⟨W3.heap.size,0,none⟩)]) rfl oq rfl trivial (enters_of Tryz.func75 kq rfl)
  (Zao ai W3.heap.size bt _ w4 HQ4.out HT4.out) (fun h k=>h.trans k) (fun W l o o' _ h hc=>KD.putObj W l o o' h hc) (fun W W' h=>KD.of_below h) (fun _=>rfl)
  (fun pre W=>WI w.heap.size w2.heap.size ai bt w pre W) (WI.own oq) (fun _ _ _=>trivial) HI4.out
  (fun pre x a' W=>pre=[]∧∃b7,w.heap.size≤b7∧W.heap[b7]?=some (.cells #[.int .i64 0,.slice none 0 0] 69 (0,0))∧a'.tmps.size=46∧slt a'.tmps 1=.pointer (some ⟨w.heap.size,0,none⟩)∧slt a'.tmps 5=.pointer (some ⟨w2.heap.size,0,none⟩)∧slt a'.tmps 6=.pointer (some ⟨w2.heap.size+1,0,none⟩)∧slt a'.tmps 7=.pointer (some ⟨b7,0,none⟩)∧slt a'.tmps 8=.int .i64 2∧a'.defers=[])
  (fun pre x a' s A C row hs hg hrw=>by
   obtain⟨h1,b7,h2,h3,h4⟩:=hs
   exact⟨h1,b7,h2,Xf h3 hg (fun r e=>(hrw r e).2),h4⟩) ?assign ?body ?done
 case assign =>
  rintro l pre x W K hi hpre hK
  have HI:=hid hi
  have hwl:=hi.2.2.2.2.2.2.size
  clear hi
  gi_wp2
  exact hK _ _ ((RowKit.Below.refl _ _).alloc (Zc _) _) (HI.out.below ((RowKit.Below.refl _ _).alloc (Zc _) _)) ⟨hpre,W.heap.size,hwl,Yp W _,by simp,by simp[slt],by simp[slt],by simp[slt],by simp[slt],by simp[slt],rfl⟩
 case body =>
  rintro l pre x ⟨t,dd⟩ W hl hr hi ⟨rfl,b7,hb7,h7,hsz,s1,s5,s6,s7,s8,hd⟩
  simp only at hsz s1 s5 s6 s7 s8 hd
  subst hd
  rw[ZbO hsz,s1,s5,s6,s7,s8]
  generalize slt t 0=u0,slt t 2=u2,slt t 3=u3,slt t 4=u4,slt t 9=u9,slt t 10=u10,slt t 11=u11,slt t 12=u12,slt t 13=u13,slt t 14=u14,slt t 15=u15,slt t 16=u16,slt t 17=u17,slt t 18=u18,slt t 19=u19,slt t 20=u20,slt t 21=u21,slt t 22=u22,slt t 23=u23,slt t 24=u24,slt t 25=u25,slt t 26=u26,slt t 27=u27,slt t 28=u28,slt t 29=u29,slt t 30=u30,slt t 31=u31,slt t 32=u32,slt t 33=u33,slt t 34=u34,slt t 35=u35,slt t 36=u36,slt t 37=u37,slt t 38=u38,slt t 39=u39,slt t 40=u40,slt t 41=u41,slt t 42=u42,slt t 43=u43,slt t 44=u44,slt t 45=u45
  clear hsz s1 s5 s6 s7 s8 t
  obtain⟨⟨x0,x1,x2,x3⟩,xf⟩:=Yq hi.2.2.1
  obtain⟨⟨z0,z1⟩,zf⟩:=YB h7
  have HI:=hid hi
  have hWl:=hi.2.2.2.2.2.2.size
  have hsl:=hi.2.1.lt
  clear hi h7
  gi_upto_region 8 with (refine⟨trivial,?_⟩;gi_at_call 30;refine(Zt.2 (HCO.out _ HI.out.2.2.2.2.2.2)).mono ?_;rintro e w5 ⟨⟨b,rfl,hb,hq⟩,hb5⟩;have HQB:=hid hq;have HI5:=hid (HI.out.below hb5);have HB5:=hid hb5;clear hq hb5)
  have hi5:=HI5.out
  have c5:=hi5.1.cell
  have f5:=hi5.1.frozen
  have l5:=hi5.1.lt
  simp only[Zw,if_true] at c5
  clear hi5 x0 x1 x2 x3 xf z0 z1 zf
  refine Qn (S:=(fun _:World=>True)) kq kq (by rintro⟨_,_,h⟩;exact h) trivial (fun hHeld=>?_)
  refine tk 1 hHeld ?_
  refine tk 3 hHeld ?_
  refine rz 0 2 (fun K hK=>?_) fun K hK=>?_
  ·go_simp
   refine hK.out _ _ (fun hHeld=>?_)
   clear hK K
   refine ry 2 fun K hK=>?_
   (go_simp;go_at_call 31;refine(Un (w:=w5.drew) b 4 3 HQB.out).mono ?_;rintro y w6 ⟨rfl,rfl⟩)
   refine hK.out _ _ (fun hHeld=>?_)
   clear hK K
   refine tk 4 hHeld ?_
   refine tk 5 hHeld ?_
   refine ry 6 fun K hK=>?_
   go_simp
   refine hK.out _ _ (fun hHeld=>?_)
   clear hK K
   refine Zy kq ?_ _
   rw[show(max 0 (IntKind.i64.wrap 5):Int)=5 from by decide]
   obtain⟨W6,hW6⟩:∃W6,(w5.setCell ⟨w2.heap.size,0,none⟩ (.int .i64 5)).drew=W6:=⟨_,rfl⟩
   have hi5:=HI5.out
   have e1:Boxed W6 w2.heap.size 2 (.int .i64 5):=by rw[←hW6];exact hi5.1.set _
   have hbt6:But (fun k=>k=w2.heap.size) w5 W6:=by rw[←hW6];exact(show But (fun k=>k=w2.heap.size) w5 (w5.setCell ⟨w2.heap.size,0,none⟩ (.int .i64 5)) from But.set (S:=fun k=>k=w2.heap.size) rfl _).drew
   have hko6:KeepsOthers w5 W6:=by rw[←hW6];exact(KeepsOthers.setCell _ _ _).trans (KeepsOthers.drew _)
   rw[hW6]
   clear hW6
   have hs56:=hbt6.size
   have hsW5:=HB5.out.size
   have hbl:=Zb HQB.out
   have hq6:W6.heap[b]?=_:=(hbt6.block b hbl oq).trans HQB.out
   have hown:W6.ownsRow W.heap.size 62 2 (.slice (some ⟨b,0,none⟩) 1 1) 1 [.int .i64 4,.int .i64 3]:=⟨rfl,.inr ⟨b,1,#[.int .i64 4,.int .i64 3],rfl,hb,hq6,oq,by unfold maxLen;omega,rfl,rfl⟩⟩
   have e2:=(hbt6.block _ hi5.2.1.lt oq).trans hi5.2.1
   have c6:=Boxed.cell (t:=2) e2
   simp only[Zw,if_true] at c6
   have c5':=e1.cell
   have HOWN:=hid hown
   have HE1:=hid e1
   have HE2:=hid (show Boxed W6 (w2.heap.size+1) 2 _ from e2)
   have HQ6:=hid hq6
   have HBT6:=hid hbt6
   have HKO6:=hid hko6
   obtain⟨i0,hi0,hi1,hi2,hi3⟩:=info_parts Gh
   have HIC:=hid (Zh hi0 (Zh hi1 (Zh hi2 hi3)))
   clear hown e1 e2 hq6 hbt6 hko6 hi0 hi1 hi2 hi3 hi5 c5 f5 l5
   gi_upto_region 10 with (first|(refine wpListIn_append_own _ (by rfl) (.tmp 29) (.tmp 32) 30 (by rfl) W.heap.size 62 i0 _ 2 16 Tryz.underlying30 HIC.out.1 HIC.out.2.1 HIC.out.2.2.1 HIC.out.2.2.2 rfl oq (.slice (some ⟨b,0,none⟩) 1 1) 1 [.int .i64 4,.int .i64 3] (by rfl) (own_below HOWN.out bq) ⟨W6.heap.size,0,none⟩ 1 1 [.int .i64 1,.int .i64 0] (by rfl) (by rfl) (World.news_of_block (Zz _ _)) (by simp[Value.oneCell']) (by unfold maxLen;omega) oq (by simp;omega) ?_;intro v9 w9 hown9 hg9 hnn;obtain⟨g,cap,rfl,hgb,hgl,r0,r1,r2,r3⟩:=vk hown9;have HY:=hid (vh g cap hgl r0 r1 r2 r3);have HG9:=hid hg9;clear hown9 hg9 hnn r0 r1 r2 r3)|(refine⟨trivial,?_⟩;gi_at_call 32;refine(CallsIn.inRound l (Zt.2 HY.out)).mono ?_;rintro e w10 ⟨rfl,hb10⟩;have HB10:=hid hb10;clear hb10))
   have hb10:=HB10.out
   have HKO10:=hid ((KO.of_below HB5.out).trans (HKO6.out.trans ((gR _ HQ6.out HG9.out).trans (KO.of_below hb10))))
   have HBX:=hid (show But (fun k=>(Value.slice (some ⟨b,0,none⟩) 1 1).ownBlock=some k) W6 w10 from((But.of_below ((RowKit.Below.refl _ _).alloc (Zc _) _)).then (But.of_grown HG9.out) (fun _ _ e=>e)).then (But.of_below hb10) (fun _ _ e=>e))
   have e1:Boxed w10 w2.heap.size 2 (.int .i64 5):=(HBX.out.block _ HE1.out.lt (fun e=>by have e3:some b=some w2.heap.size:=e;injection e3 with e3;omega)).trans HE1.out
   have e2:=(HBX.out.block _ HE2.out.lt (fun e=>by have e3:some b=some (w2.heap.size+1):=e;injection e3 with e3;omega)).trans HE2.out
   have k5:=e1.cell
   have k6:w10.cell? ⟨w2.heap.size+1,0,none⟩=some (.int .i64 1):=Boxed.cell (t:=2) e2
   have kf:=Boxed.frozen (t:=2) e2
   have kl:=Boxed.lt (t:=2) e2
   have HE10:=hid e1
   have HF10:=hid (show Boxed w10 (w2.heap.size+1) 2 _ from e2)
   clear hb10 e1 e2 c5' c6
   gi_wp2
   have hS:=((But.of_below (S:=fun k=>k=w2.heap.size∨k=w2.heap.size+1∨k=b) HB5.out).then HBT6.out (fun k _ e=>.inl e)).then HBX.out (fun k _ e=>.inr (.inr (by injection e with e;exact e.symm)))
   have hS2:=hS.then (But.set (o:=0) (S:=fun k=>k=w2.heap.size∨k=w2.heap.size+1∨k=b) (.inr (.inl rfl)) (.int .i64 4)) (fun k _ e=>e)
   have hlW:l<W.heap.size:=by obtain⟨r,h⟩:=hr;exact(Zq.1 h).1
   have hi0:=HI.out
   have hn:∀k,k<w.heap.size+1+1+1+1→¬(k=w2.heap.size∨k=w2.heap.size+1∨k=b):=fun k hk e=>oq
   refine⟨(HKO10.out.trans (KeepsOthers.setCell _ _ _)).from _,KD.of_but hS2 (fun e=>oq) (fun e=>oq),?_,HF10.out.set _,?_,?_,?_,?_,?_⟩
   ·exact(RowKit.Below.heap_setCell _ _ _ _ (by show w2.heap.size≠w2.heap.size+1;omega)).trans HE10.out
   ·exact(hS2.block _ (Zb hi0.2.2.1) (hn _ oq)).trans hi0.2.2.1
   ·exact(hS2.block _ (Boxed.lt hi0.2.2.2.1) (hn _ oq)).trans hi0.2.2.2.1
   ·exact(hS2.block _ (Boxed.lt hi0.2.2.2.2.1) (hn _ oq)).trans hi0.2.2.2.2.1
   ·exact(hS2.block _ (Boxed.lt hi0.2.2.2.2.2.1) (hn _ oq)).trans hi0.2.2.2.2.2.1
   exact hi0.2.2.2.2.2.2.trans (hS2.below hWl (fun k e=>oq))
  (go_simp;go_at_call 31;refine(Un (w:=w5.drew) b 4 3 HQB.out).mono ?_;rintro y w6 ⟨rfl,rfl⟩)
  refine hK.out _ _ (fun hHeld=>?_)
  clear hK K
  refine tk 4 hHeld ?_
  refine ry 0 fun K hK=>?_
  go_simp
  refine hK.out _ _ (fun hHeld=>?_)
  clear hK K
  refine tk 5 hHeld ?_
  refine ry 6 fun K hK=>?_
  go_simp
  refine hK.out _ _ (fun hHeld=>?_)
  clear hK K
  refine Zy kq ?_ _
  rw[show(max 0 (IntKind.i64.wrap 5):Int)=5 from by decide]
  obtain⟨W6,hW6⟩:∃W6,(w5.setCell ⟨w2.heap.size,0,none⟩ (.int .i64 5)).drew=W6:=⟨_,rfl⟩
  have hi5:=HI5.out
  have e1:Boxed W6 w2.heap.size 2 (.int .i64 5):=by rw[←hW6];exact hi5.1.set _
  have hbt6:But (fun k=>k=w2.heap.size) w5 W6:=by rw[←hW6];exact(show But (fun k=>k=w2.heap.size) w5 (w5.setCell ⟨w2.heap.size,0,none⟩ (.int .i64 5)) from But.set (S:=fun k=>k=w2.heap.size) rfl _).drew
  have hko6:KeepsOthers w5 W6:=by rw[←hW6];exact(KeepsOthers.setCell _ _ _).trans (KeepsOthers.drew _)
  rw[hW6]
  clear hW6
  have hs56:=hbt6.size
  have hsW5:=HB5.out.size
  have hbl:=Zb HQB.out
  have hq6:W6.heap[b]?=_:=(hbt6.block b hbl oq).trans HQB.out
  have hown:W6.ownsRow W.heap.size 62 2 (.slice (some ⟨b,0,none⟩) 1 1) 1 [.int .i64 4,.int .i64 3]:=⟨rfl,.inr ⟨b,1,#[.int .i64 4,.int .i64 3],rfl,hb,hq6,oq,by unfold maxLen;omega,rfl,rfl⟩⟩
  have e2:=(hbt6.block _ hi5.2.1.lt oq).trans hi5.2.1
  have c6:=Boxed.cell (t:=2) e2
  simp only[Zw,if_true] at c6
  have c5':=e1.cell
  have HOWN:=hid hown
  have HE1:=hid e1
  have HE2:=hid (show Boxed W6 (w2.heap.size+1) 2 _ from e2)
  have HQ6:=hid hq6
  have HBT6:=hid hbt6
  have HKO6:=hid hko6
  obtain⟨i0,hi0,hi1,hi2,hi3⟩:=info_parts Gh
  have HIC:=hid (Zh hi0 (Zh hi1 (Zh hi2 hi3)))
  clear hown e1 e2 hq6 hbt6 hko6 hi0 hi1 hi2 hi3 hi5 c5 f5 l5
  gi_upto_region 10 with (first|(refine wpListIn_append_own _ (by rfl) (.tmp 29) (.tmp 32) 30 (by rfl) W.heap.size 62 i0 _ 2 16 Tryz.underlying30 HIC.out.1 HIC.out.2.1 HIC.out.2.2.1 HIC.out.2.2.2 rfl oq (.slice (some ⟨b,0,none⟩) 1 1) 1 [.int .i64 4,.int .i64 3] (by rfl) (own_below HOWN.out bq) ⟨W6.heap.size,0,none⟩ 1 1 [.int .i64 1,.int .i64 0] (by rfl) (by rfl) (World.news_of_block (Zz _ _)) (by simp[Value.oneCell']) (by unfold maxLen;omega) oq (by simp;omega) ?_;intro v9 w9 hown9 hg9 hnn;obtain⟨g,cap,rfl,hgb,hgl,r0,r1,r2,r3⟩:=vk hown9;have HY:=hid (vh g cap hgl r0 r1 r2 r3);have HG9:=hid hg9;clear hown9 hg9 hnn r0 r1 r2 r3)|(refine⟨trivial,?_⟩;gi_at_call 32;refine(CallsIn.inRound l (Zt.2 HY.out)).mono ?_;rintro e w10 ⟨rfl,hb10⟩;have HB10:=hid hb10;clear hb10))
  have hb10:=HB10.out
  have HKO10:=hid ((KO.of_below HB5.out).trans (HKO6.out.trans ((gR _ HQ6.out HG9.out).trans (KO.of_below hb10))))
  have HBX:=hid (show But (fun k=>(Value.slice (some ⟨b,0,none⟩) 1 1).ownBlock=some k) W6 w10 from((But.of_below ((RowKit.Below.refl _ _).alloc (Zc _) _)).then (But.of_grown HG9.out) (fun _ _ e=>e)).then (But.of_below hb10) (fun _ _ e=>e))
  have e1:Boxed w10 w2.heap.size 2 (.int .i64 5):=(HBX.out.block _ HE1.out.lt (fun e=>by have e3:some b=some w2.heap.size:=e;injection e3 with e3;omega)).trans HE1.out
  have e2:=(HBX.out.block _ HE2.out.lt (fun e=>by have e3:some b=some (w2.heap.size+1):=e;injection e3 with e3;omega)).trans HE2.out
  have k5:=e1.cell
  have k6:w10.cell? ⟨w2.heap.size+1,0,none⟩=some (.int .i64 1):=Boxed.cell (t:=2) e2
  have kf:=Boxed.frozen (t:=2) e2
  have kl:=Boxed.lt (t:=2) e2
  have HE10:=hid e1
  have HF10:=hid (show Boxed w10 (w2.heap.size+1) 2 _ from e2)
  clear hb10 e1 e2 c5' c6
  gi_wp2
  have hS:=((But.of_below (S:=fun k=>k=w2.heap.size∨k=w2.heap.size+1∨k=b) HB5.out).then HBT6.out (fun k _ e=>.inl e)).then HBX.out (fun k _ e=>.inr (.inr (by injection e with e;exact e.symm)))
  have hS2:=hS.then (But.set (o:=0) (S:=fun k=>k=w2.heap.size∨k=w2.heap.size+1∨k=b) (.inr (.inl rfl)) (.int .i64 4)) (fun k _ e=>e)
  have hlW:l<W.heap.size:=by obtain⟨r,h⟩:=hr;exact(Zq.1 h).1
  have hi0:=HI.out
  have hn:∀k,k<w.heap.size+1+1+1+1→¬(k=w2.heap.size∨k=w2.heap.size+1∨k=b):=fun k hk e=>oq
  refine⟨(HKO10.out.trans (KeepsOthers.setCell _ _ _)).from _,KD.of_but hS2 (fun e=>oq) (fun e=>oq),?_,HF10.out.set _,?_,?_,?_,?_,?_⟩
  ·exact(RowKit.Below.heap_setCell _ _ _ _ (by show w2.heap.size≠w2.heap.size+1;omega)).trans HE10.out
  ·exact(hS2.block _ (Zb hi0.2.2.1) (hn _ oq)).trans hi0.2.2.1
  ·exact(hS2.block _ (Boxed.lt hi0.2.2.2.1) (hn _ oq)).trans hi0.2.2.2.1
  ·exact(hS2.block _ (Boxed.lt hi0.2.2.2.2.1) (hn _ oq)).trans hi0.2.2.2.2.1
  ·exact(hS2.block _ (Boxed.lt hi0.2.2.2.2.2.1) (hn _ oq)).trans hi0.2.2.2.2.2.1
  exact hi0.2.2.2.2.2.2.trans (hS2.below hWl (fun k e=>oq))
 rintro D xs W hD rfl hi hk
 have HMK:=hid ((Mk.nil w.heap.size 0 W).cons oq (Zk _) hk)
 have HI:=hid hi
 obtain⟨h1,h2,h3,h4,h5,h6,h7⟩:=hi
 have c5:=h1.cell
 have c6:=h2.cell
 have f1:=h4.cell
 have g1:=h4.frozen
 have f2:=h5.cell
 have g2:=h5.frozen
 have f3:=h6.cell
 have g3:=h6.frozen
 have l1:=h4.lt
 have l2:=h5.lt
 have l3:=h6.lt
 simp only[Zp,Zw] at c5 c6
 clear h1 h2 h3 h4 h5 h6 hk
 gi_wp2
 have KS1:=hid (show S13 w2.heap.size W.drew from ⟨c5,c6⟩)
 have KS2:=hid (show S13 w2.heap.size (W.setCell ⟨w.heap.size+1,0,none⟩ (.int .i64 5)).drew from S13.set (w':=W) oq ⟨c5,c6⟩)
 have KS3:=hid (show S13 w2.heap.size ((W.setCell ⟨w.heap.size+1,0,none⟩ (.int .i64 5)).setCell ⟨w.heap.size+1+1,0,none⟩ (.int .i64 4)).drew from S13.set oq (S13.set (w':=W) oq ⟨c5,c6⟩))
 have KS4:=hid (show S13 w2.heap.size (((W.setCell ⟨w.heap.size+1,0,none⟩ (.int .i64 5)).setCell ⟨w.heap.size+1+1,0,none⟩ (.int .i64 4)).setCell ⟨w.heap.size+1+1+1,0,none⟩ (.int .i64 0)).drew from S13.set oq (S13.set oq (S13.set (w':=W) oq ⟨c5,c6⟩)))
 refine wpIn_wide.2 (wp_region_noPanic ?_)
 refine ZO (S:=S13 w2.heap.size) kq (by first|with_reducible exact KS1.out|with_reducible exact KS2.out|with_reducible exact KS3.out|with_reducible exact KS4.out) (fun hHeld=>?_)
 refine tk 0 hHeld ?_
 refine tk 1 hHeld ?_
 refine ry 2 fun K hK=>?_
 go_simp
 refine hK.out _ _ (fun hHeld=>?_) (by first|with_reducible exact KS1.out|with_reducible exact KS2.out|with_reducible exact KS3.out|with_reducible exact KS4.out)
 clear hK K
 refine ry 3 fun K hK=>?_
 go_simp
 refine hK.out _ _ (fun hHeld=>?_) (by first|with_reducible exact KS1.out|with_reducible exact KS2.out|with_reducible exact KS3.out|with_reducible exact KS4.out)
 clear hK K
 refine ry 4 fun K hK=>?_
 go_simp
 refine hK.out _ _ (fun hHeld=>?_) (by first|with_reducible exact KS1.out|with_reducible exact KS2.out|with_reducible exact KS3.out|with_reducible exact KS4.out)
 clear hK K
 refine Zy kq ?_ _
 refine NoPanic.normal ?_
 obtain⟨h1,h2,h3,h4,h5,h6,h7⟩:=HI.out
 have b1:Boxed (((W.setCell ⟨w.heap.size+1,0,none⟩ (.int .i64 5)).setCell ⟨w.heap.size+1+1,0,none⟩ (.int .i64 4)).setCell ⟨w.heap.size+1+1+1,0,none⟩ (.int .i64 0)) (w.heap.size+1) 2 (.int .i64 5):=UL (UL (h4.set (.int .i64 5)) oq) oq
 have b2:Boxed (((W.setCell ⟨w.heap.size+1,0,none⟩ (.int .i64 5)).setCell ⟨w.heap.size+1+1,0,none⟩ (.int .i64 4)).setCell ⟨w.heap.size+1+1+1,0,none⟩ (.int .i64 0)) (w.heap.size+1+1) 2 (.int .i64 4):=UL ((UL (c:=w.heap.size+1) (o:=0) (u:=.int .i64 5) h5 oq).set (.int .i64 4)) oq
 have b3:Boxed (((W.setCell ⟨w.heap.size+1,0,none⟩ (.int .i64 5)).setCell ⟨w.heap.size+1+1,0,none⟩ (.int .i64 4)).setCell ⟨w.heap.size+1+1+1,0,none⟩ (.int .i64 0)) (w.heap.size+1+1+1) 38 (.int .i64 0):=(UL (c:=w.heap.size+1+1) (o:=0) (u:=.int .i64 4) (UL (c:=w.heap.size+1) (o:=0) (u:=.int .i64 5) h6 oq) oq).set (.int .i64 0)
 have hbF:RowKit.Below w.heap.size w (((W.setCell ⟨w.heap.size+1,0,none⟩ (.int .i64 5)).setCell ⟨w.heap.size+1+1,0,none⟩ (.int .i64 4)).setCell ⟨w.heap.size+1+1+1,0,none⟩ (.int .i64 0)):=((h7.setCell (p:=⟨w.heap.size+1,0,none⟩) (by show w.heap.size≤w.heap.size+1;omega) _).setCell (p:=⟨w.heap.size+1+1,0,none⟩) (by show w.heap.size≤w.heap.size+1+1;omega) _).setCell (p:=⟨w.heap.size+1+1+1,0,none⟩) (by show w.heap.size≤w.heap.size+1+1+1;omega) _
 obtain⟨WZ,hWZ⟩:∃WZ,((((W.setCell ⟨w.heap.size+1,0,none⟩ (.int .i64 5)).setCell ⟨w.heap.size+1+1,0,none⟩ (.int .i64 4)).setCell ⟨w.heap.size+1+1+1,0,none⟩ (.int .i64 0))).drew=WZ:=⟨_,rfl⟩
 have z1:Boxed WZ (w.heap.size+1) 2 (.int .i64 5):=by rw[←hWZ];exact b1
 have z2:Boxed WZ (w.heap.size+1+1) 2 (.int .i64 4):=by rw[←hWZ];exact b2
 have z3:Boxed WZ (w.heap.size+1+1+1) 38 (.int .i64 0):=by rw[←hWZ];exact b3
 have zB:RowKit.Below w.heap.size w WZ:=by rw[←hWZ];exact hbF.drew
 have zM:Mk w.heap.size W.heap.size [mkD D] WZ:=by rw[←hWZ];exact HMK.out.from (((((KeepsOthers.setCell _ _ _).trans (KeepsOthers.setCell _ _ _)).trans (KeepsOthers.setCell _ _ _)).trans (KeepsOthers.drew _)).from _)
 rw[hWZ]
 have HZ:=hid (Zh z1 (Zh z2 (Zh z3 zB)))
 have HZM:=hid zM
 clear hWZ z1 z2 z3 zB zM b1 b2 b3 hbF h1 h2 h3 h4 h5 h6 h7 KS1 KS2 KS3 KS4 HMK c5 c6 f1 g1 f2 g2 f3 g3
 gi_wp2
 refine HZM.out.leaves (fun W' hW'=>⟨.tuple #[.int .i64 5,.int .i64 4,.int .i64 0],?_,?_⟩)
 ·have q1:=Boxed.cell (t:=2) (hW'.cells _ _ HZ.out.1 rfl)
  have q2:=Boxed.cell (t:=2) (hW'.cells _ _ HZ.out.2.1 rfl)
  have q3:=Boxed.cell (t:=38) (hW'.cells _ _ HZ.out.2.2.1 rfl)
  clear hW'
  simp only[results,Tryz.results11];go_simp
 exact⟨rfl,HZ.out.2.2.2.trans hW'.below⟩
theorem ZcS {w:World} {b bt:Nat} (hq:w.heap[b]?=some (.cells #[.int .i64 4,.int .i64 3] 62 (0,0))) (ht:EF w bt):FAP w fdA (some ⟨b,0,none⟩) none none (some ⟨bt,0,none⟩):=by
 refine⟨.inr ⟨b,0,rfl,Zb hq,fun i hi=>?_⟩,.inl rfl,.inl rfl,.inr ⟨bt,0,rfl,Zb ht,fun i hi=>?_⟩,by unfold fdA;simp,(fun t ht=>by cases ht),fun t ht=>?_⟩
 ·have hi1:i<1:=hi
  obtain rfl:i=0:=oq
  obtain⟨⟨h0,h1⟩,_⟩:=YB hq
  exact⟨h0,h1⟩
 ·have hi1:i<1:=hi
  obtain rfl:i=0:=oq
  obtain⟨⟨h0,h1,h2,h3,h4⟩,_⟩:=Vb ht
  exact⟨h0,h1,h2,h4,none,0,h3,.inl rfl⟩
 obtain rfl:=List.mem_singleton.1 ht
 exact⟨by simp,by show I64 0;unfold I64;omega⟩
theorem Za7 (w:World):Calls Tryz.prog 6 #[] w fun x w'=>x=.returned (.bool true)∧RowKit.Below w.heap.size w w':=by
 obtain⟨W2,hW2⟩:∃W2,(w.alloc (.cells #[.int .i64 4,.int .i64 3] 62)).alloc (.cells #[.int .i64 4,.int .i64 3,.int .i64 0,.slice none 0 0,.int .i64 2] 71)=W2:=⟨_,rfl⟩
 have hB:RowKit.Below w.heap.size w W2:=by rw[←hW2];exact bq
 have hq:W2.heap[w.heap.size]?=some (.cells #[.int .i64 4,.int .i64 3] 62 (0,0)):=by rw[←hW2];exact(RowKit.Below.heap_alloc _ _ _ (by simp)).trans (Yp w _)
 have ht:EF W2 (w.heap.size+1):=by
  rw[←hW2]
  have:=Yp (w.alloc (.cells #[.int .i64 4,.int .i64 3] 62)) (.cells #[.int .i64 4,.int .i64 3,.int .i64 0,.slice none 0 0,.int .i64 2] 71)
  rwa [Zu] at this
 have HB:=hid hB
 have HW:=hid (jx (some ⟨w.heap.size,0,none⟩) (w.heap.size+1) (ZcS hq ht) ht)
 unfold fv fdA at HW
 simp only[Zp,Zw,ZD] at HW
 clear hB hq ht
 go_enter Tryz.func6,Tryz.ntmps6
 go_wp2_with (go_at_call 11;refine HW.out.mono ?_;rintro x w3 ⟨rfl,hb3⟩;have HB3:=hid hb3;clear hb3)
 exact Zl (v:=.bool true) (by simp only[results,Tryz.results6];go_simp) rfl ⟨rfl,HB.out.trans (HB3.out.mono HB.out.size)⟩
open Go.RowKit Go.Shelf
def YM (e:TypeId) (w w':World):Prop:=∀(k:Nat) (cur:Array Value) (t:TypeId) (fz:Nat × Nat),w.heap[k]?=some (Obj.cells cur t fz)→t≠e→w'.heap[k]?=some (Obj.cells cur t fz)
theorem YM.trans {e:TypeId} {a b c:World} (h:YM e a b) (k:YM e b c):YM e a c:=fun i cur t fz hi ht=>k i cur t fz (h i cur t fz hi ht) ht
theorem YM.of_below {e:TypeId} {a b:World} (h:Below a.heap.size a b):YM e a b:=fun i cur t fz hi _=>(h.block i (Zb hi)).trans hi
theorem YM.of_grown {e:TypeId} {a b:World} {base size n:Nat} {v:Value} {xs:List Value} (ho:a.ownsRow base e size v n xs) (hg:a.grownBy b v.ownBlock):YM e a b:=by
 intro i cur t fz hi ht
 refine(hg.block i (Zb hi) (fun he=>?_)).trans hi
 rcases ho.2 with ⟨rfl,_⟩|⟨g,cap,cur',rfl,hb,hgg,_⟩
 ·cases he
 simp[Value.ownBlock] at he
 subst he
 rw[hi] at hgg
 injection hgg with hgg
 injection hgg with h1 h2 h3
 exact ht h2
theorem YM.set {e:TypeId} (w:World) (b o:Nat) {cur:Array Value} {fz:Nat × Nat} (h:w.heap[b]?=some (.cells cur e fz)) (u:Value):YM e w (w.setCell ⟨b,o,none⟩ u):=by
 intro i cur' t fz' hi ht
 refine(Zr _ _ _ _ (fun he=>?_)).trans hi
 have he:i=b:=he
 subst he
 rw[h] at hi
 injection hi with hi
 injection hi with h1 h2 h3
 exact ht h2.symm
theorem Ju {w w':World} {base:Nat} {e e':TypeId} {size n:Nat} {v:Value} {xs:List Value} (h:w.ownsRow base e size v n xs) (hs:YM e' w w') (hne:e≠e'):w'.ownsRow base e size v n xs:=by
 refine⟨h.1,?_⟩
 rcases h.2 with h0|⟨g,cap,cur,hv,hb,hg,rest⟩
 ·exact .inl h0
 exact .inr ⟨g,cap,cur,hv,hb,hs g cur e _ hg hne,rest⟩
theorem Zbk (w:World) (base:Nat) (e:TypeId) (size:Nat):w.ownsRow base e size (.slice none 0 0) 0 []:=Yf _ _ _ _
def Y6 {α:Type} (Pe:World→List Value→α→Prop) (e:TypeId) (size:Nat) (w:World) (base:Nat) (v:Value) (l:List α):Prop :=
 ∃cs:List (List Value),cs.length=l.length∧w.ownsRow base e size v l.length cs.flatten∧(∀c∈cs,c.length=size)∧∀i (h:i<l.length) (h':i<cs.length),Pe w cs[i] l[i]
section
variable {α:Type} {Pe:World→List Value→α→Prop} {e:TypeId} {size:Nat} {w w':World} {base:Nat} {v:Value} {l:List α}
theorem Y6.nil:Y6 Pe e size w base (.slice none 0 0) ([]:List α):=⟨[],rfl,Zbk _ _ _ _,by simp,fun i h=>by simp at h⟩
theorem Y6.own (h:Y6 Pe e size w base v l):∃xs,w.ownsRow base e size v l.length xs:=by
 obtain⟨cs,_,h1,_⟩:=h
 exact⟨_,h1⟩
theorem Y6.form (h:Y6 Pe e size w base v l):∃ad cap,v=.slice ad l.length cap:=by
 obtain⟨xs,h1⟩:=h.own
 exact Yy h1
theorem Y6.stays (h:Y6 Pe e size w base v l) {e':TypeId} (hs:YM e' w w') (hne:e≠e') (hP:∀c x,Pe w c x→Pe w' c x):Y6 Pe e size w' base v l:=by
 obtain⟨cs,h1,h2,h3,h4⟩:=h
 exact⟨cs,h1,Ju h2 hs hne,h3,fun i hi hi'=>hP _ _ (h4 i hi hi')⟩
theorem Y6.below (h:Y6 Pe e size w base v l) (hb:Below w.heap.size w w') (hP:∀c x,Pe w c x→Pe w' c x):Y6 Pe e size w' base v l:=by
 obtain⟨cs,h1,h2,h3,h4⟩:=h
 exact⟨cs,h1,own_below h2 hb,h3,fun i hi hi'=>hP _ _ (h4 i hi hi')⟩
theorem zn (cs:List (List Value)) (c:List Value):(cs++[c]).flatten=cs.flatten++c:=by simp
theorem Y6.snoc {cs:List (List Value)} (h1:cs.length=l.length) (h3:∀c∈cs,c.length=size) (h4:∀i (h:i<l.length) (h':i<cs.length),Pe w' cs[i] l[i]) {c:List Value} (hc:c.length=size) {x:α} (hx:Pe w' c x) {v':Value}
  (hown:w'.ownsRow base e size v' (l.length+1) (cs.flatten++c)):Y6 Pe e size w' base v' (l++[x]):=by
 refine⟨cs++[c],by simp[h1],by rw[zn,Zx];exact hown,fun d hd=>?_,fun i hi hi'=>?_⟩
 ·rcases List.mem_append.1 hd with h|h
  ·exact h3 d h
  rw[List.mem_singleton.1 h];exact hc
 by_cases hl:i<l.length
 ·rw[List.getElem_append_left hl,List.getElem_append_left oq]
  exact h4 i hl oq
 have hi2:i=l.length:=by simp at hi;omega
 subst hi2
 rw[List.getElem_append_right (Zc _),List.getElem_append_right oq]
 simp only[h1,Nat.sub_self,List.getElem_cons_zero]
 exact hx
theorem Uh {wr w3 w4:World} {n:Nat} {xs:List Value} {ob:Obj} (hown:wr.ownsRow base e size v n xs) (hb:Below wr.heap.size wr w3) (hg:(w3.alloc ob).grownBy w4 v.ownBlock):YM e wr w4∧(∀B,B≤base→B≤wr.heap.size→Below B wr w4)∧wr.heap.size≤w4.heap.size:=by
 have h3:Below wr.heap.size wr (w3.alloc ob):=hb.alloc hb.size _
 refine⟨(YM.of_below h3).trans (YM.of_grown (own_below hown h3) hg),fun B hB hB2=>?_,Zm h3.size hg.size⟩
 exact(h3.mono hB2).grown hg (Zm hB2 h3.size) (fun k ek=>Zm hB (Qy hown k ek))
theorem Jb {wr w4:World} {cs:List (List Value)} (h1:cs.length=l.length) (h2:wr.ownsRow base e size v l.length cs.flatten) (h3:∀c∈cs,c.length=size) (h4:∀i (h:i<l.length) (h':i<cs.length),Pe wr cs[i] l[i]) (hP:∀c x,Pe wr c x→Pe w4 c x)
  {c:List Value} (hc:c.length=size) {x:α} (hx:Pe w4 c x) {v':Value} (hown4:w4.ownsRow base e size v' (l.length+1) (cs.flatten++c)):Y6 Pe e size w4 base v' (l++[x]) :=
 Y6.snoc h1 h3 (fun i hi hi'=>hP _ _ (h4 i hi hi')) hc hx hown4
end
def VM (base:Nat) (w:World) (c:List Value) (x:Nat × List Op3):Prop:=∃v,c=[.int .i64 (x.1:Int),v]∧w.ownsRow base 156 3 v x.2.length (Qf x.2)
def xi (w:World) (c:List Value) (x:Int × Int):Prop:=c=[.int .i64 x.1,.int .i64 x.2]
structure TK where
 node:Int
 per:Int
 ph:Int
 args:List (Nat × List Op3)
def QI (base:Nat) (w:World) (c:List Value) (x:TK):Prop:=∃v,c=[.int .i64 x.node,.int .i64 x.per,.int .i64 x.ph,v]∧Y6 (VM base) 69 2 w base v x.args
structure TL where
 per:Int
 ph:Int
 src:Nat
 ops:List Op3
 dl:Int
def QS (base:Nat) (w:World) (c:List Value) (x:TL):Prop:=∃v,c=[.int .i64 x.per,.int .i64 x.ph,.int .i64 (x.src:Int),v,.int .i64 x.dl]∧w.ownsRow base 156 3 v x.ops.length (Qf x.ops)
theorem Jo.stays {P:Nat→Prop} {w w':World} {e':TypeId} (hs:YM e' w w') (hne:88≠e'):∀(l:PL) (b o:Nat),OkB w P b→Jo w P b l o→Jo w' P b l o:=by
 intro l
 induction l with
 | nil=>intro b o _ _;trivial
 | cons k nm n d args a tl ih1 ih2 =>
  intro b o hb h
  have hb0:=hb
  obtain⟨_,cs,hcs⟩:=hb
  have hc:∀o,w'.cell? ⟨b,o,none⟩=w.cell? ⟨b,o,none⟩:=fun o=>Zn (w:=w) (a:=⟨b,o,none⟩) ((hs b cs _ _ hcs hne).trans hcs.symm)
  obtain⟨h0,h1,h2,h3,h5,⟨ad,cap,h4,hcap,hd⟩,ht⟩:=h
  refine⟨(hc _).trans h0,(hc _).trans h1,(hc _).trans h2,(hc _).trans h3,(hc _).trans h5,⟨ad,cap,(hc _).trans h4,hcap,?_⟩,ih2 b _ hb0 ht⟩
  rcases hd with hd|⟨b',o',e,hb',hd⟩
  ·exact .inl hd
  obtain⟨hp,cs',hcs'⟩:=hb'
  exact .inr ⟨b',o',e,⟨hp,cs',hs b' cs' _ _ hcs' hne⟩,ih1 b' o' ⟨hp,cs',hcs'⟩ hd⟩
theorem SlA.stays {P:Nat→Prop} {w w':World} {e':TypeId} {args:PL} {ad:Option Addr} (h:SlA w P args ad) (hs:YM e' w w') (hne:88≠e'):SlA w' P args ad:=by
 rcases h with h|⟨b,o,e,⟨hp,cs,hcs⟩,h⟩
 ·exact .inl h
 exact .inr ⟨b,o,e,⟨hp,cs,hs b cs _ _ hcs hne⟩,h.stays hs hne _ _ _ ⟨hp,cs,hcs⟩⟩
def Ui (w:World) (c:List Value) (x:ND):Prop:=∃pa pc ad cap,c=[.string x.nm,.slice pa x.ps.length pc,.int .i64 x.bud,.int .i64 x.body.k,.string x.body.nm,.int .i64 x.body.n,.int .i64 x.body.d,.slice ad x.body.args.len cap,.int .i64 x.body.a,.int .i64 x.a] ∧
 w.ownsRow 0 9 1 (.slice pa x.ps.length pc) x.ps.length (x.ps.map Value.string)∧x.body.args.len≤cap∧SlA w (fun _=>True) x.body.args ad
theorem Ui.stays {w w':World} {e':TypeId} {c:List Value} {x:ND} (h:Ui w c x) (hs:YM e' w w') (h1:9≠e') (h2:88≠e'):Ui w' c x:=by
 obtain⟨pa,pc,ad,cap,hc,ho,hl,ha⟩:=h
 exact⟨pa,pc,ad,cap,hc,Ju ho hs h1,hl,ha.stays hs h2⟩
theorem Ui.below {w w':World} {c:List Value} {x:ND} (h:Ui w c x) (hb:Below w.heap.size w w'):Ui w' c x:=by
 obtain⟨pa,pc,ad,cap,hc,ho,hl,ha⟩:=h
 exact⟨pa,pc,ad,cap,hc,own_below ho hb,hl,ha.keep (Same.of_below hb (Same.refl _ _))⟩
section
variable {base:Nat} {w w':World} {e':TypeId}
theorem VM.stays {c:List Value} {x:Nat × List Op3} (h:VM base w c x) (hs:YM e' w w') (hne:156≠e'):VM base w' c x:=by
 obtain⟨v,h1,h2⟩:=h
 exact⟨v,h1,Ju h2 hs hne⟩
theorem QI.stays {c:List Value} {x:TK} (h:QI base w c x) (hs:YM e' w w') (hne:156≠e') (hne2:69≠e'):QI base w' c x:=by
 obtain⟨v,h1,h2⟩:=h
 exact⟨v,h1,h2.stays hs hne2 (fun c x h=>h.stays hs hne)⟩
theorem QS.stays {c:List Value} {x:TL} (h:QS base w c x) (hs:YM e' w w') (hne:156≠e'):QS base w' c x:=by
 obtain⟨v,h1,h2⟩:=h
 exact⟨v,h1,Ju h2 hs hne⟩
theorem VM.below {c:List Value} {x:Nat × List Op3} (h:VM base w c x) (hb:Below w.heap.size w w'):VM base w' c x:=by
 obtain⟨v,h1,h2⟩:=h
 exact⟨v,h1,own_below h2 hb⟩
theorem QI.below {c:List Value} {x:TK} (h:QI base w c x) (hb:Below w.heap.size w w'):QI base w' c x:=by
 obtain⟨v,h1,h2⟩:=h
 exact⟨v,h1,h2.below hb (fun c x h=>h.below hb)⟩
theorem QS.below {c:List Value} {x:TL} (h:QS base w c x) (hb:Below w.heap.size w w'):QS base w' c x:=by
 obtain⟨v,h1,h2⟩:=h
 exact⟨v,h1,own_below h2 hb⟩
theorem Y6.mono {α:Type} {Pe Pe':World→List Value→α→Prop} {e:TypeId} {size:Nat} {base base':Nat} {v:Value} {l:List α} (h:Y6 Pe e size w base v l) (hb:base'≤base) (hP:∀c x,Pe w c x→Pe' w c x):Y6 Pe' e size w base' v l:=by
 obtain⟨cs,h1,h2,h3,h4⟩:=h
 exact⟨cs,h1,Xg h2 hb,h3,fun i hi hi'=>hP _ _ (h4 i hi hi')⟩
theorem VM.mono {base':Nat} {c:List Value} {x:Nat × List Op3} (h:VM base w c x) (hb:base'≤base):VM base' w c x:=by
 obtain⟨v,h1,h2⟩:=h
 exact⟨v,h1,Xg h2 hb⟩
theorem QI.mono {base':Nat} {c:List Value} {x:TK} (h:QI base w c x) (hb:base'≤base):QI base' w c x:=by
 obtain⟨v,h1,h2⟩:=h
 exact⟨v,h1,h2.mono hb (fun c x h=>h.mono hb)⟩
end
theorem xV:(Tryz.prog.info? 69).map (fun i=>(i.zero,i.size,i.bytes))=some (some (.agg #[.int .i64 0,.slice none 0 0]),2,32):=by kernel_rfl
theorem yK:(Tryz.prog.info? 65).map (fun i=>(i.zero,i.size,i.bytes))=some (some (.agg #[.int .i64 0,.int .i64 0,.int .i64 0,.slice none 0 0]),4,48):=by kernel_rfl
theorem xj:(Tryz.prog.info? 71).map (fun i=>(i.zero,i.size,i.bytes))=some (some (.agg #[.int .i64 0,.int .i64 0,.int .i64 0,.slice none 0 0,.int .i64 0]),5,56):=by kernel_rfl
theorem jy:(Tryz.prog.info? 62).map (fun i=>(i.zero,i.size,i.bytes))=some (some (.agg #[.int .i64 0,.int .i64 0]),2,16):=by kernel_rfl
theorem yk:(Tryz.prog.info? 90).map (fun i=>(i.zero,i.size,i.bytes))=some (some (.agg #[.string ⟨#[]⟩,.slice none 0 0,.int .i64 0,.int .i64 0,.string ⟨#[]⟩,.int .i64 0,.int .i64 0,.slice none 0 0,.int .i64 0,.int .i64 0]),10,128):=by kernel_rfl
end Go.Proofs.YtgigilkpndhddaaGreatDoor.syn
