/-
  Parts of the proof: Flt9.
-/
import Derived.Test.YtgigilkpndhddaaGreatDoorQ09
import Derived.Test.YtgigilkpndhddaaGreatDoorQ24
namespace Go.Proofs.YtgigilkpndhddaaGreatDoor.syn
set_option linter.unusedVariables false
set_option linter.unusedSimpArgs false
set_option linter.unnecessarySimpa false
set_option maxRecDepth 100000
set_option maxHeartbeats 16000000
open Go.RowKit Go.Shelf
attribute [local go_sem] ZT
theorem YG.same {w w':World} {mb:Nat} {L:List (ByteArray × Value)} (h:YG w mb L) (e:w'.heap[mb]?=w.heap[mb]?):YG w' mb L:=by
 obtain⟨a,c,h1,h2⟩:=h
 exact⟨a,c,e.trans h1,h2⟩
structure Mkr (W0:World) (p:PG) (an ai af ao:Option Addr) (cn ci cf co mc mi mf mn mx m:Nat) (Lc Li Lf Ln Lx:List (ByteArray × Value)) (W:World):Prop where
 low:Below W0.heap.size W0 W
 ord:W0.heap.size≤mc∧mc<mi∧mi<mf∧mf<mn∧mn<mx∧mx<m
 box:MkB W m p an ai af ao cn ci cf co mc mi mf mn mx
 c:YG W mc Lc
 i:YG W mi Li
 f:YG W mf Lf
 nd:YG W mn Ln
 x:YG W mx Lx
section
variable {W0:World} {p:PG} {an ai af ao:Option Addr} {cn ci cf co mc mi mf mn mx m:Nat} {Lc Li Lf Ln Lx:List (ByteArray × Value)} {W W':World}
theorem Mkr.lt (h:Mkr W0 p an ai af ao cn ci cf co mc mi mf mn mx m Lc Li Lf Ln Lx W):m<W.heap.size:=Zb h.box
theorem Mkr.keep (h:Mkr W0 p an ai af ao cn ci cf co mc mi mf mn mx m Lc Li Lf Ln Lx W) {B:Nat} (hB:m<B) (hb:Below B W W'):Mkr W0 p an ai af ao cn ci cf co mc mi mf mn mx m Lc Li Lf Ln Lx W':=by
 have ho:=h.ord
 exact⟨h.low.trans (hb.mono oq),ho,(hb.block m hB).trans h.box,h.c.same (hb.block _ oq),h.i.same (hb.block _ oq),h.f.same (hb.block _ oq),h.nd.same (hb.block _ oq),h.x.same (hb.block _ oq)⟩
theorem Mkr.grow (h:Mkr W0 p an ai af ao cn ci cf co mc mi mf mn mx m Lc Li Lf Ln Lx W) (hb:Below W.heap.size W W'):Mkr W0 p an ai af ao cn ci cf co mc mi mf mn mx m Lc Li Lf Ln Lx W':=h.keep h.lt hb
theorem Mkr.putX (h:Mkr W0 p an ai af ao cn ci cf co mc mi mf mn mx m Lc Li Lf Ln Lx W) {o:Obj} {L:List (ByteArray × Value)} (hm:YG (World.putM W mx o) mx L):Mkr W0 p an ai af ao cn ci cf co mc mi mf mn mx m Lc Li Lf Ln L (World.putM W mx o):=by
 have hu:Upon mx W (World.putM W mx o):=YF (Upon.refl _ _) _
 have ho:=h.ord
 exact⟨Qr h.low oq _,ho,(hu.block _ h.lt oq).trans h.box,h.c.upon hu oq,h.i.upon hu oq,h.f.upon hu oq,h.nd.upon hu oq,hm⟩
end
theorem Zb8 {w:World} {p:PG} {an ai af ao:Option Addr} {cn ci cf co mc mi mf mn mx m:Nat} {Lc Li Lf Ln:List (ByteArray × Value)} {w':World} (h:MkS w w.heap.size (ED p an ai af ao cn ci cf co mc mi mf mn mx) mc mi mf mn mx m w' Lc Li Lf Ln):Mkr w p an ai af ao cn ci cf co mc mi mf mn mx m Lc Li Lf Ln [] w' :=
 ⟨h.low,h.ord,h.box,h.c,h.i,h.f,h.nd,h.x⟩
theorem QD {B:Nat} {X Y:World} {row:Option Nat} (hg:X.grownBy Y row) (hr:∀r,row=some r→B≤r∧∃o:Obj,X.heap[r]?=some o∧o.isCells=false) (hB:B≤X.heap.size):Below B X Y :=
 ownFrom_below (β:=Unit) (w₀:=X) hB (Zc B) () X Y row (Zg _ _) hg hr
def YI:List FL→Nat→List (PE × ByteArray)
 | [],_=>[]
 | f::l,i=>(Xi f.e (dg i)).filter isC++YI l (i+1)
theorem vd:∀(a b:List ByteArray) (i:Nat) (e:IE),inI (a++b) i e=inI b (i+a.length) (inI a i e)
 | [],b,i,e=>by simp[inI]
 | k::a,b,i,e=>by
  rw[ZC,inI,inI,vd a b (i+1) _,Zp,show i+1+a.length=i+(a.length+1) by omega]
theorem gN (a:List ByteArray) (k:ByteArray) (e:IE):inI (a++[k]) 0 e=VO (inI a 0 e) k a.length:=by
 rw[vd,ZD]
 rfl
structure JM (W0:World) (p:PG) (an ai af ao:Option Addr) (cn ci cf co mc mi mf mn mx m:Nat) (Lc Li Lf Ln:List (ByteArray × Value)) (w:World) (B:Nat) (Ds:List Nat) (ways:List ByteArray) (X:World):Prop where
 mkr:∃Lx,Mkr W0 p an ai af ao cn ci cf co mc mi mf mn mx m Lc Li Lf Ln Lx X∧Xh Lx (inI ways 0 (fun _=>none))
 up:Upon mx w X
 lt:m<w.heap.size
 size:w.heap.size+4≤B
 bsize:B≤X.heap.size
 b0:Boxed X w.heap.size 123 (.pointer (some ⟨m,0,none⟩))
 b1:Boxed X (w.heap.size+1) 3 (.int .i64 0)
 b2:Boxed X (w.heap.size+1+1) 38 (.int .i64 0)
 b3:Boxed X (w.heap.size+1+1+1) 3 (.int .i64 (ways.length:Int))
 few:ways.length≤30
 marks:Mks w.heap.size Ds X
 under:∀D∈Ds,D<B
section
variable {W0:World} {p:PG} {an ai af ao:Option Addr} {cn ci cf co mc mi mf mn mx m:Nat} {Lc Li Lf Ln:List (ByteArray × Value)} {w:World} {B:Nat} {Ds:List Nat} {ways:List ByteArray} {X Y:World}
theorem Upon.then_below {r B:Nat} {a b c:World} (h:Upon r a b) (k:Below B b c) (hB:a.heap.size≤B):Upon r a c :=
 ⟨k.os.trans h.os,k.tape.trans h.tape,k.output.trans h.output,Zm h.size k.size,fun i hi hr=>(k.block i (Zd hi hB)).trans (h.block i hi hr)⟩
theorem JM.keep (h:JM W0 p an ai af ao cn ci cf co mc mi mf mn mx m Lc Li Lf Ln w B Ds ways X) (hb:Below B X Y):JM W0 p an ai af ao cn ci cf co mc mi mf mn mx m Lc Li Lf Ln w B Ds ways Y:=by
 obtain⟨Lx,h1,h2⟩:=h.mkr
 have h3:=h.lt
 have h4:=h.size
 exact⟨⟨Lx,h1.keep oq hb,h2⟩,h.up.then_below hb oq,h3,h4,Zm h.bsize hb.size,(hb.block _ oq).trans h.b0,(hb.block _ oq).trans h.b1,(hb.block _ oq).trans h.b2,(hb.block _ oq).trans h.b3,h.few,
  ⟨fun D hD=>⟨(h.marks.1 D hD).1,(hb.block D (h.under D hD)).trans (h.marks.1 D hD).2⟩,h.marks.2⟩,h.under⟩
theorem JM.more (h:JM W0 p an ai af ao cn ci cf co mc mi mf mn mx m Lc Li Lf Ln w B Ds ways X) {B':Nat} (h1:B≤B') (h2:B'≤X.heap.size):JM W0 p an ai af ao cn ci cf co mc mi mf mn mx m Lc Li Lf Ln w B' Ds ways X :=
 ⟨h.mkr,h.up,h.lt,Zm h.size h1,h2,h.b0,h.b1,h.b2,h.b3,h.few,h.marks,fun D hD=>Zd (h.under D hD) h1⟩
theorem JM.own {row:Option Nat} (h:JM W0 p an ai af ao cn ci cf co mc mi mf mn mx m Lc Li Lf Ln w B Ds ways X) (hg:X.grownBy Y row) (hr:∀r,row=some r→B≤r∧∃o:Obj,X.heap[r]?=some o∧o.isCells=false):JM W0 p an ai af ao cn ci cf co mc mi mf mn mx m Lc Li Lf Ln w B Ds ways Y :=
 h.keep (QD hg hr h.bsize)
theorem JM.step (h:JM W0 p an ai af ao cn ci cf co mc mi mf mn mx m Lc Li Lf Ln w B Ds ways X) {Lx:List (ByteArray × Value)} (hM:Mkr W0 p an ai af ao cn ci cf co mc mi mf mn mx m Lc Li Lf Ln Lx X) (hI:Xh Lx (inI ways 0 (fun _=>none))) (k:ByteArray) {o:Obj}
  (hm:YG (World.putM X.drew mx o) mx (Jc k (.int .i64 (ways.length:Int)) Lx)) (hlt:ways.length<30) :
  JM W0 p an ai af ao cn ci cf co mc mi mf mn mx m Lc Li Lf Ln w B Ds (ways++[k]) ((World.putM X.drew mx o).setCell ⟨w.heap.size+1+1+1,0,none⟩ (.int .i64 ((ways.length:Int)+1))):=by
 have h3:=h.lt
 have h4:=h.size
 have h5:=h.bsize
 have ho:=hM.ord
 have hu:Upon mx X (World.putM X.drew mx o):=YF (Upon.refl _ _).drew _
 have hM2:=(hM.grow (Zg _ _).drew).putX hm
 have hf:∀k,k≠w.heap.size+1+1+1→((World.putM X.drew mx o).setCell ⟨w.heap.size+1+1+1,0,none⟩ (.int .i64 ((ways.length:Int)+1))).heap[k]?=(World.putM X.drew mx o).heap[k]?:=fun k hk=>Zr _ _ _ _ (fun e=>hk e)
 have hk:∀k,k<X.heap.size→k≠mx→k≠w.heap.size+1+1+1→((World.putM X.drew mx o).setCell ⟨w.heap.size+1+1+1,0,none⟩ (.int .i64 ((ways.length:Int)+1))).heap[k]?=X.heap[k]?:=fun k h1 h2 h3=>(hf k h3).trans (hu.block k h1 h2)
 refine⟨⟨_,hM2.keep (B:=w.heap.size) h3 ((Zg _ _).setCell (p:=⟨w.heap.size+1+1+1,0,none⟩) (by show w.heap.size≤w.heap.size+1+1+1;omega) _),?_⟩,?_,h3,h4,?_,?_,?_,?_,?_,?_,⟨fun D hD=>⟨(h.marks.1 D hD).1,?_⟩,h.marks.2⟩,h.under⟩
 ·rw[gN]
  exact hI.put k ways.length
 ·exact(YF h.up.drew _).setCell (p:=⟨w.heap.size+1+1+1,0,none⟩) (Or.inr (by show w.heap.size≤w.heap.size+1+1+1;omega)) _
 ·refine Zm h5 (Zm hu.size ?_)
  exact((Zg 0 (World.putM X.drew mx o)).setCell (p:=⟨w.heap.size+1+1+1,0,none⟩) (Zk _) _).size
 ·exact(hk _ oq oq oq).trans h.b0
 ·exact(hk _ oq oq oq).trans h.b1
 ·exact(hk _ oq oq oq).trans h.b2
 ·have hb3:Boxed (World.putM X.drew mx o) (w.heap.size+1+1+1) 3 (.int .i64 (ways.length:Int)):=(hu.block _ oq oq).trans h.b3
  have:=hb3.set (.int .i64 ((ways.length:Int)+1))
  rw[show(((ways++[k]).length:Nat):Int)=(ways.length:Int)+1 by simp]
  exact this
 ·simp;omega
 have hD1:=(h.marks.1 D hD).2
 have hne:D≠w.heap.size+1+1+1:=by
  intro e
  rw[e] at hD1
  have:=h.b3
  unfold Boxed at this
  rw[this] at hD1
  cases hD1
 exact(hk D (Zb hD1) (by have:=(h.marks.1 D hD).1;omega) hne).trans hD1
theorem JM.mark (h:JM W0 p an ai af ao cn ci cf co mc mi mf mn mx m Lc Li Lf Ln w B Ds ways X) {D:Nat} (h1:B≤D) (h2:X.heap[D]?=some (.deferred (some []))):JM W0 p an ai af ao cn ci cf co mc mi mf mn mx m Lc Li Lf Ln w X.heap.size (D::Ds) ways X:=by
 have hs:=h.size
 refine⟨h.mkr,h.up,h.lt,Zm h.size h.bsize,Zc _,h.b0,h.b1,h.b2,h.b3,h.few,⟨fun D' hD'=>?_,List.nodup_cons.2 ⟨fun hm=>?_,h.marks.2⟩⟩,fun D' hD'=>?_⟩
 ·rcases ZR.1 hD' with rfl|hm
  ·exact⟨oq,h2⟩
  exact h.marks.1 D' hm
 ·have:=h.under D hm
  omega
 rcases ZR.1 hD' with rfl|hm
 ·exact Zb h2
 have:=h.under D' hm
 have:=h.bsize
 omega
structure Zbs (W0 w:World) (B:Nat) (Ds:List Nat) (X:World):Prop where
 low:Below W0.heap.size W0 X
 size:w.heap.size+4≤B
 bsize:B≤X.heap.size
 b1:∃a,Boxed X (w.heap.size+1) 3 (.int .i64 a)
 b2:Boxed X (w.heap.size+1+1) 38 (.int .i64 8)
 marks:Mks w.heap.size Ds X
 under:∀D∈Ds,D<B
end
section
variable {W0 w:World} {B:Nat} {Ds:List Nat} {X Y:World}
theorem Zbs.own (hlow:W0.heap.size≤w.heap.size) {row:Option Nat} (h:Zbs W0 w B Ds X) (hg:X.grownBy Y row) (hr:∀r,row=some r→B≤r∧∃o:Obj,X.heap[r]?=some o∧o.isCells=false):Zbs W0 w B Ds Y:=by
 have hb:=QD hg hr h.bsize
 have hs:=h.size
 obtain⟨a,h1⟩:=h.b1
 exact⟨h.low.trans (hb.mono oq),hs,Zm h.bsize hb.size,⟨a,(hb.block _ oq).trans h1⟩,(hb.block _ oq).trans h.b2,⟨fun D hD=>⟨(h.marks.1 D hD).1,(hb.block D (h.under D hD)).trans (h.marks.1 D hD).2⟩,h.marks.2⟩,h.under⟩
end
def ZbT (W0:World) (p:PG) (an ai af ao:Option Addr) (cn ci cf co mc mi mf mn mx m:Nat) (Lc Li Lf Ln:List (ByteArray × Value)) (w:World) (x:Ending) (w':World):Prop :=
 (∃a,x=.returned (.tuple #[.int .i64 a,.int .i64 8])∧30<(YI p.flows 0).length∧Below W0.heap.size W0 w') ∨
  (x=.returned (.tuple #[.int .i64 0,.int .i64 0])∧(YI p.flows 0).length≤30∧Upon mx w w'∧∃Lx,Mkr W0 p an ai af ao cn ci cf co mc mi mf mn mx m Lc Li Lf Ln Lx w'∧Xh Lx (inI ((YI p.flows 0).map Prod.snd) 0 (fun _=>none)))
theorem U5 {l:List FL} {i:Nat} (h:i<l.length) (j:Nat):YI (l.drop i) j=(Xi l[i].e (dg j)).filter isC++YI (l.drop (i+1)) (j+1):=by
 rw[ZN h]
 rfl
theorem qo {W0 w:World} (p:PG) (an ai af ao:Option Addr) (cn ci cf co:Nat) (hp:AP W0 p an ai af ao cn ci cf co) (hok:Jy p) (mc mi mf mn mx m:Nat) (Lc Li Lf Ln:List (ByteArray × Value)) (hM:Mkr W0 p an ai af ao cn ci cf co mc mi mf mn mx m Lc Li Lf Ln [] w) :
  Calls Tryz.prog 55 #[.pointer (some ⟨m,0,none⟩)] w (ZbT W0 p an ai af ao cn ci cf co mc mi mf mn mx m Lc Li Lf Ln w):=by
 have hlm:=hM.lt
 have hw0:=hM.low.size
 have hll:=hok.lens
 have HM:=hid hM
 obtain⟨⟨x0,x1,x2,x3,x4,x5,x6,x7,x8⟩,xf⟩:=YL (show w.heap[m]?=_ from hM.box)
 have hl1:m<w.heap.size+1:=oq
 have hl2:m<w.heap.size+1+1:=oq
 have hl3:m<w.heap.size+1+1+1:=oq
 have hl4:m<w.heap.size+1+1+1+1:=oq
 clear hM
 refine(Zt (n:=6)).1 ?_
 refine callsIn_of_wp_marks Tryz.func55 rfl trivial ?_ rfl
 simp only[Tryz.ntmps55,ZI,Zp,Zw,Nat.reduceAdd,Nat.reduceSub,ZF,ZE,ZL,ZJ,ZM,ZC]
 gi_wp2
 obtain⟨W4,hW4⟩:∃W4,(((w.alloc (.cells #[.pointer (some ⟨m,0,none⟩)] 123)).alloc (.cells #[.int .i64 0] 3)).alloc (.cells #[.int .i64 0] 38)).alloc (.cells #[.int .i64 0] 3)=W4:=⟨_,rfl⟩
 rw[hW4]
 have hB4:Below w.heap.size w W4:=by rw[←hW4];exact bq
 have hs4:W4.heap.size=w.heap.size+4:=by rw[←hW4];simp
 have HN4:=hid (show JM W0 p an ai af ao cn ci cf co mc mi mf mn mx m Lc Li Lf Ln w W4.heap.size [] [] W4 from ⟨⟨[],HM.out.grow hB4,fun _=>rfl⟩,Upon.of_below hB4,hlm,oq,Zc _,
  by rw[←hW4];exact(((Boxed.new _ _ _).alloc _).alloc _).alloc _,by rw[←hW4];have:=((Boxed.new (w.alloc (.cells #[.pointer (some ⟨m,0,none⟩)] 123)) 3 (.int .i64 0)).alloc (.cells #[.int .i64 0] 38)).alloc (.cells #[.int .i64 0] 3);simpa using this,
  by rw[←hW4];have:=(Boxed.new ((w.alloc (.cells #[.pointer (some ⟨m,0,none⟩)] 123)).alloc (.cells #[.int .i64 0] 3)) 38 (.int .i64 0)).alloc (.cells #[.int .i64 0] 3);simpa using this,
  by rw[←hW4];have:=Boxed.new (((w.alloc (.cells #[.pointer (some ⟨m,0,none⟩)] 123)).alloc (.cells #[.int .i64 0] 3)).alloc (.cells #[.int .i64 0] 38)) 3 (.int .i64 0);simpa using this,by simp,⟨by simp,List.nodup_nil⟩,by simp⟩)
 clear hW4 hB4 x0 x1 x2 x3 x4 x5 x6 x7 x8 xf hl1 hl2 hl3 hl4
 refine wpIn_loop (fun a' wr=>∃(u5 u14 u15 u16 u17 u18 u34:Value) (i:Nat) (Ds:List Nat) (dn:List (PE × ByteArray)),(i≤p.flows.length∧dn++YI (p.flows.drop i) i=YI p.flows 0∧JM W0 p an ai af ao cn ci cf co mc mi mf mn mx m Lc Li Lf Ln w wr.heap.size Ds (dn.map Prod.snd) wr) ∧
  a'={ tmps:=#[.pointer (some ⟨m,0,none⟩),.pointer (some ⟨w.heap.size,0,none⟩),.pointer (some ⟨w.heap.size+1,0,none⟩),.pointer (some ⟨w.heap.size+1+1,0,none⟩),.pointer (some ⟨w.heap.size+1+1+1,0,none⟩),u5,undef,.pointer (some ⟨m,0,none⟩),.pointer (some ⟨m,0,none⟩),.pointer (some ⟨m,0,none⟩),.pointer (some ⟨m,2,none⟩),.slice af p.flows.length cf,.int .i64 (p.flows.length:Int),.int .i64 (i:Int),u14,u15,u16,u17,u18,undef,undef,undef,undef,undef,undef,undef,undef,undef,undef,undef,undef,undef,undef,undef,u34],defers:=Ds.map mk })
  (fun a' _=>p.flows.length-(intOf (a'.tmps.getD 13 undef)).toNat) ⟨_,_,_,_,_,_,_,0,[],[],⟨Zk _,rfl,HN4.out⟩,rfl⟩ ?_
 rintro _ wr ⟨u5,u14,u15,u16,u17,u18,u34,i,Ds,dn,⟨hi,hdn,hN⟩,rfl⟩
 dsimp only
 have HN:=hid hN
 have c0:=hN.b0.cell
 have hsw:=Zm hN.size hN.bsize
 clear hN HN4
 by_cases hlt:i<p.flows.length
 ·have hil:(i:Int)<(p.flows.length:Int):=oq
  rw[U5 hlt] at hdn
  have HDN:=hid hdn
  clear hdn
  gi_wp2_with (refine⟨trivial,?_⟩;gi_at_call 98;refine(Zt.2 (VQ (w:=wr) m i)).mono ?_;rintro x w5 ⟨rfl,rfl⟩)
  obtain⟨W5,hW5⟩:∃W5,(wr.alloc (.cells #[.pointer (some ⟨m,0,none⟩)] 123)).alloc (.cells #[.int .i64 (i:Int)] 3)=W5:=⟨_,rfl⟩
  rw[hW5]
  have hB5:Below wr.heap.size wr W5:=by rw[←hW5];exact bq
  have hs5:W5.heap.size=wr.heap.size+2:=by rw[←hW5];simp
  have bx1:Boxed W5 wr.heap.size 123 (.pointer (some ⟨m,0,none⟩)):=by rw[←hW5];exact(Boxed.new _ _ _).alloc _
  have bx2:Boxed W5 (wr.heap.size+1) 3 (.int .i64 (i:Int)):=by rw[←hW5];have:=Boxed.new (wr.alloc (.cells #[.pointer (some ⟨m,0,none⟩)] 123)) 3 (.int .i64 (i:Int));simpa using this
  clear hW5
  have HN5:=hid ((HN.out.keep hB5).more (B':=W5.heap.size) oq (Zc _))
  obtain⟨Lx5,hM5,_⟩:=HN5.out.mkr
  have hB05:Below W0.heap.size W0 W5:=hM5.low
  have HBX:=hid hM5.box
  have hw5:=hB05.size
  have hlm5:=HN5.out.lt
  refine jp (w:=W5) (encs:=fun x:VS W0=>#[.agg #[.int .i64 x.s.1.k,.string x.s.1.nm,.int .i64 x.s.1.n,.int .i64 x.s.1.d,.slice x.ad x.s.1.args.len x.cap,.int .i64 x.s.1.a,.string x.s.2]]) rfl oq (gf:=130) (lb:=#[.pointer (some ⟨wr.heap.size,0,none⟩),.pointer (some ⟨wr.heap.size+1,0,none⟩)]) rfl trivial (enters_of Tryz.func130 kq rfl) (n₀:=W0.heap.size) (Bk:=wr.heap.size) hw5
   (J8 p an ai af ao cn ci cf co hp hok mc mi mf mn mx m wr.heap.size (wr.heap.size+1) i _ hlt W5 wr.heap.size oq hB05 HBX.out bx1 bx2) (fun _=>rfl)
   (fun pre X=>JM W0 p an ai af ao cn ci cf co mc mi mf mn mx m Lc Li Lf Ln w W5.heap.size Ds ((dn++pre.map (fun y:VS W0=>y.s)).map Prod.snd) X)
   (fun pre X=>Zbs W0 w W5.heap.size Ds X∧31≤dn.length+pre.length)
   (fun s X Y row hs hg hr=>hs.own hg hr) (fun s X Y row hs hg hr=>⟨hs.1.own oq hg hr,hs.2⟩) (by simpa using HN5.out)
   (fun x a' X=>∃Bx,W5.heap.size≤Bx∧X.heap[Bx]?=some (.cells #[.int .i64 x.s.1.k,.string x.s.1.nm,.int .i64 x.s.1.n,.int .i64 x.s.1.d,.slice x.ad x.s.1.args.len x.cap,.int .i64 x.s.1.a,.string x.s.2] 184 (0,0)) ∧
    a'={ tmps:=#[.pointer (some ⟨m,0,none⟩),.pointer (some ⟨w.heap.size,0,none⟩),.pointer (some ⟨w.heap.size+1,0,none⟩),.pointer (some ⟨w.heap.size+1+1,0,none⟩),.pointer (some ⟨w.heap.size+1+1+1,0,none⟩),.int .i64 (i:Int),.pointer (some ⟨Bx,0,none⟩),.pointer (some ⟨m,0,none⟩),.pointer (some ⟨m,0,none⟩),.pointer (some ⟨m,0,none⟩),.pointer (some ⟨m,2,none⟩),.slice af p.flows.length cf,.int .i64 (p.flows.length:Int),.int .i64 (i:Int),.bool true,.int .i64 (i:Int),.pointer (some ⟨m,0,none⟩),.int .i64 (i:Int),.func (.func 130) #[] #[.pointer (some ⟨wr.heap.size,0,none⟩),.pointer (some ⟨wr.heap.size+1,0,none⟩)],.agg #[.int .i64 x.s.1.k,.string x.s.1.nm,.int .i64 x.s.1.n,.int .i64 x.s.1.d,.slice x.ad x.s.1.args.len x.cap,.int .i64 x.s.1.a,.string x.s.2],undef,undef,undef,undef,undef,undef,undef,undef,undef,undef,undef,undef,undef,undef,u34],defers:=[] })
   (fun x a' _ X Y row hs hg hrw=>by
    obtain⟨Bx,h1,h2,h3⟩:=hs
    refine⟨Bx,h1,(hg.block Bx (Zq.1 h2).1 (fun e=>?_)).trans h2,h3⟩
    obtain⟨_,o,ho,hc⟩:=hrw Bx e.symm
    rw[h2] at ho;cases ho;cases hc)
   ?assign ?body ?done ?stop
  case assign =>
   rintro l2 pre x X K hIX hK
   gi_wp2
   exact hK _ _ ((Zg _ _).alloc (Zc _) _) (hIX.keep (((Zg _ _).alloc (Zc _) _).mono hIX.bsize)) ⟨X.heap.size,hIX.bsize,Yp X _,rfl⟩
  case body =>
   rintro l2 pre ⟨⟨⟨k2,nm2,n2,d2,args2,a2⟩,way2⟩,ad3,cap3,hok3⟩ a' X hl2' ⟨r,hr⟩ hIX ⟨Bx,hBx,hxb,rfl⟩ hlt2
   simp only at hxb
   obtain⟨Lx,hMX,hIxX⟩:=hIX.mkr
   have hfew:=hIX.few
   obtain⟨ways,hways⟩:∃ways,(dn++pre.map (fun y:VS W0=>y.s)).map Prod.snd=ways:=⟨_,rfl⟩
   have HWL:=hid (show ways.length=dn.length+pre.length by rw[←hways];simp)
   rw[hways] at hIX hIxX hfew
   have b3:=hIX.b3
   have c0:=hIX.b0.cell
   have c1:=hIX.b1.cell
   have f1:=hIX.b1.frozen
   have c2:=hIX.b2.cell
   have f2:=hIX.b2.frozen
   obtain⟨⟨x0,x1,x2,x3,x4,x5,x6⟩,xf⟩:=YO hxb
   obtain⟨⟨z0,z1,z2,z3,z4,z5,z6,z7,z8⟩,zf⟩:=YL (show X.heap[m]?=_ from hMX.box)
   have hX5:=hIX.bsize
   have hord:=hMX.ord
   by_cases h30:ways.length=30
   ·rw[h30] at b3
    have c3:=b3.cell
    have HIX:=hid hIX
    have hbx1:=hIX.b1
    have hbx2:=hIX.b2
    clear hIX hMX hIxX b3 hr
    gi_wp2
    have hset:∀k,k≠w.heap.size+1→k≠w.heap.size+1+1→((X.setCell ⟨w.heap.size+1,0,none⟩ (.int .i64 a2)).setCell ⟨w.heap.size+1+1,0,none⟩ (.int .i64 8)).heap[k]?=X.heap[k]?:=fun k h1 h2=>by
     rw[Zr _ _ _ _ (fun e=>h2 e),Zr _ _ _ _ (fun e=>h1 e)]
    have hbl:∀B,B≤w.heap.size+1→Below B X ((X.setCell ⟨w.heap.size+1,0,none⟩ (.int .i64 a2)).setCell ⟨w.heap.size+1+1,0,none⟩ (.int .i64 8)):=fun B hB=>((Zg _ _).setCell (p:=⟨w.heap.size+1,0,none⟩) hB _).setCell (p:=⟨w.heap.size+1+1,0,none⟩) (by show B≤w.heap.size+1+1;omega) _
    refine⟨⟨(hbl 0 oq).size,fun k o hk ho hc=>(hset k oq oq).trans ho⟩,rfl,⟨?_,oq,Zm HIX.out.bsize (hbl 0 oq).size,⟨a2,?_⟩,?_,?_,HIX.out.under⟩,by rw[Zx,Zp,Zw];have:=HWL.out;omega⟩
    ·obtain⟨Lx,hMX,_⟩:=HIX.out.mkr
     exact hMX.low.trans (hbl _ oq)
    ·exact(hbx1.set (.int .i64 a2)).other oq _
    ·exact(hbx2.other oq _).set _
    exact(HIX.out.marks.set _ _).set _ _
   have hn30:((ways.length:Int) == 30)=false:=ZY.2 oq
   have h30':ways.length<30:=oq
   have c3:=b3.cell
   have HIX:=hid hIX
   have HMX:=hid hMX
   have HIXX:=hid hIxX
   clear hIX hMX hIxX b3 hr h30 hfew
   gi_wp2
   refine UE 7 kq kq ?hlet kq ?_
   case hlet=>rintro⟨_,_,h⟩;exact h
   simp only[List.take_succ_cons,List.take_zero,List.drop_succ_cons,List.drop_zero]
   repeat still_step
   try refine wpStill_nil ?_
   change wpList _ _ _ _ _ X.drew
   go_wp2_with (at_mapUpdate;refine Xe ve _ rfl _ _ _ rfl mx Lx way2 (.int .i64 (ways.length:Int)) rfl rfl rfl (show YG X.drew _ _ from HMX.out.x) ?_;intro arr clock hm2)
   have hu2:Upon mx X (World.putM X.drew mx (.map arr clock)):=YF (Upon.refl _ _).drew _
   have HST:=hid (HIX.out.step HMX.out HIXX.out way2 hm2 h30')
   obtain⟨W2,hW2⟩:∃W2,World.putM X.drew mx (.map arr clock)=W2:=⟨_,rfl⟩
   rw[hW2] at hu2 HST ⊢
   have b3:Boxed W2 (w.heap.size+1+1+1) 3 (.int .i64 (ways.length:Int)):=(hu2.block _ oq oq).trans HIX.out.b3
   have c3':=b3.cell
   have f3':=b3.frozen
   have hi64:IntKind.i64.wrap ((ways.length:Int)+1)=(ways.length:Int)+1:=ZK _ oq
   gi_wp2
   have hset:∀k,k<X.heap.size→k≠mx→k≠w.heap.size+1+1+1→(W2.setCell ⟨w.heap.size+1+1+1,0,none⟩ (.int .i64 ((ways.length:Int)+1))).heap[k]?=X.heap[k]?:=fun k h1 h2 h3=>by
    rw[Zr _ _ _ _ (fun e=>h3 e)]
    exact hu2.block k h1 h2
   have hszz:X.heap.size≤(W2.setCell ⟨w.heap.size+1+1+1,0,none⟩ (.int .i64 ((ways.length:Int)+1))).heap.size:=Zm hu2.size ((Zg 0 W2).setCell (p:=⟨w.heap.size+1+1+1,0,none⟩) (Zk _) _).size
   refine⟨⟨hszz,fun k o hk ho hc=>(hset k (Zb ho) oq oq).trans ho⟩,⟨?_,fun k o hk ho hc=>(hset k (Zb ho) oq oq).trans ho⟩,?_⟩
   ·exact(hu2.below oq oq).setCell (p:=⟨w.heap.size+1+1+1,0,none⟩) (by show W0.heap.size≤w.heap.size+1+1+1;omega) _
   have e:((dn++(pre++[(⟨(⟨k2,nm2,n2,d2,args2,a2⟩,way2),ad3,cap3,hok3⟩:VS W0)]).map (fun y:VS W0=>y.s)).map Prod.snd)=ways++[way2]:=by rw[←hways];simp
   show JM W0 p an ai af ao cn ci cf co mc mi mf mn mx m Lc Li Lf Ln w W5.heap.size Ds ((dn++(pre++[(⟨(⟨k2,nm2,n2,d2,args2,a2⟩,way2),ad3,cap3,hok3⟩:VS W0)]).map (fun y:VS W0=>y.s)).map Prod.snd) _
   rw[e]
   exact HST.out
  case done =>
   rintro D zs X hD hzs hIX hK
   gi_wp2
   rw[show((i:Int)+1)=((i+1:Nat):Int) by omega]
   refine⟨⟨_,_,_,_,_,_,_,i+1,D::Ds,dn++zs.map (·.s),⟨oq,?_,hIX.mark hD hK⟩,rfl⟩,by simp[intOf];omega⟩
   rw[hzs,List.append_assoc]
   exact HDN.out
  rintro D pre X hD hpre ⟨hX,h31⟩ hK
  obtain⟨a,bA⟩:=hX.b1
  have bE:=hX.b2
  have hlow:=hX.low
  gi_wp2
  refine XX (n₀:=w.heap.size) (D::Ds) _ ⟨fun D' hD'=>?_,List.nodup_cons.2 ⟨fun hm=>?_,hX.marks.2⟩⟩ (fun w' hk=>?_)
  ·rcases ZR.1 hD' with rfl|hm
   ·exact⟨oq,hK⟩
   exact hX.marks.1 D' hm
  ·have:=hX.under D hm
   omega
  have bA4:=(show Boxed w' _ _ _ from hk.same _ _ bA rfl).cell
  have bE4:=(show Boxed w' _ _ _ from hk.same _ _ bE rfl).cell
  refine⟨.tuple #[.int .i64 a,.int .i64 8],?_,?_⟩
  ·simp only[results,Tryz.results55];go_simp
  refine .inl ⟨a,rfl,?_,hlow.trans (hk.below.mono oq)⟩
  obtain⟨q,hq⟩:=hpre
  have h1:=Z3 List.length HDN.out
  have h2:=Z3 List.length hq
  simp only[Zx,Zo] at h1 h2
  omega
 have hie0:i=p.flows.length:=oq
 have hie:¬(i:Int)<(p.flows.length:Int):=oq
 have bA2:=HN.out.b1
 have bE2:=HN.out.b2
 have cA:=bA2.cell
 have fA:=bA2.frozen
 have cE:=bE2.cell
 have fE:=bE2.frozen
 gi_wp2
 refine XX Ds _ ((HN.out.marks.set _ _).set _ _) (fun w' hk=>?_)
 have bA3:=hk.same _ _ ((bA2.set (.int .i64 0)).other (show w.heap.size+1≠w.heap.size+1+1 by omega) (.int .i64 0)) rfl
 have bE3:=hk.same _ _ ((bE2.other (show w.heap.size+1+1≠w.heap.size+1 by omega) (.int .i64 0)).set (.int .i64 0)) rfl
 have bA4:=(show Boxed w' _ _ _ from bA3).cell
 have bE4:=(show Boxed w' _ _ _ from bE3).cell
 refine⟨.tuple #[.int .i64 0,.int .i64 0],?_,.inr ⟨rfl,?_,?_,?_⟩⟩
 ·simp only[results,Tryz.results55];go_simp
 ·rw[hie0,Yo,YI,List.append_nil] at hdn
  have:=HN.out.few
  rw[←hdn]
  simpa using this
 ·exact(((HN.out.up.setCell (p:=⟨w.heap.size+1,0,none⟩) (Or.inr (by show w.heap.size≤w.heap.size+1;omega)) _)).setCell (p:=⟨w.heap.size+1+1,0,none⟩) (Or.inr (by show w.heap.size≤w.heap.size+1+1;omega)) _).then_below hk.below (Zc _)
 obtain⟨Lx,hMX,hIX⟩:=HN.out.mkr
 rw[hie0,Yo,YI,List.append_nil] at hdn
 rw[hdn] at hIX
 exact⟨Lx,hMX.keep (B:=w.heap.size) hlm ((((Zg _ _).setCell (p:=⟨w.heap.size+1,0,none⟩) (by show w.heap.size≤w.heap.size+1;omega) _).setCell (p:=⟨w.heap.size+1+1,0,none⟩) (by show w.heap.size≤w.heap.size+1+1;omega) _).trans hk.below),hIX⟩
end Go.Proofs.YtgigilkpndhddaaGreatDoor.syn
