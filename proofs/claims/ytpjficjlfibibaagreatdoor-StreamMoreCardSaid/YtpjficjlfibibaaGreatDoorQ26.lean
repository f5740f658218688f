/-
  Parts of the proof: Flt9, ShelR, Flt10.
-/
import Derived.Test.YtpjficjlfibibaaGreatDoorQ25
import Derived.Ground.SlgnProg
import Derived.Shelf.SlicesQ.Reverse
import Derived.Test.YtpjficjlfibibaaGreatDoorProg
import Derived.Deep.AppendLies
namespace Go.Proofs.YtpjficjlfibibaaGreatDoor.syn
open Go.RowKit Go.Shelf
set_option linter.unusedVariables false
set_option linter.unusedSimpArgs false
attribute [local go_sem] Oper.semAt_some
theorem MapS.same {w w':World} {mb:Nat} {L:List (ByteArray × Value)} (h:MapS w mb L) (e:w'.heap[mb]? = w.heap[mb]?):MapS w' mb L:=by
 obtain ⟨a,c,h1,h2⟩:=h
 exact ⟨a,c,e.trans h1,h2⟩
structure Mkr (W0:World) (p:PG) (an ai af ao:Option Addr) (cn ci cf co mc mi mf mn mx m:Nat) (Lc Li Lf Ln Lx:List (ByteArray × Value)) (W:World):Prop where
 low:Below W0.heap.size W0 W
 ord:W0.heap.size ≤ mc ∧ mc < mi ∧ mi < mf ∧ mf < mn ∧ mn < mx ∧ mx < m
 box:MkB W m p an ai af ao cn ci cf co mc mi mf mn mx
 c:MapS W mc Lc
 i:MapS W mi Li
 f:MapS W mf Lf
 nd:MapS W mn Ln
 x:MapS W mx Lx
section
variable {W0:World} {p:PG} {an ai af ao:Option Addr} {cn ci cf co mc mi mf mn mx m:Nat} {Lc Li Lf Ln Lx:List (ByteArray × Value)} {W W':World}
theorem Mkr.lt (h:Mkr W0 p an ai af ao cn ci cf co mc mi mf mn mx m Lc Li Lf Ln Lx W):m < W.heap.size:=lt_of_block h.box
theorem Mkr.keep (h:Mkr W0 p an ai af ao cn ci cf co mc mi mf mn mx m Lc Li Lf Ln Lx W) {B:Nat} (hB:m < B) (hb:Below B W W'):Mkr W0 p an ai af ao cn ci cf co mc mi mf mn mx m Lc Li Lf Ln Lx W':=by
 have ho:=h.ord
 exact ⟨h.low.trans (hb.mono oq),ho,(hb.block m hB).trans h.box,h.c.same (hb.block _ oq),h.i.same (hb.block _ oq),h.f.same (hb.block _ oq),h.nd.same (hb.block _ oq),h.x.same (hb.block _ oq)⟩
theorem Mkr.grow (h:Mkr W0 p an ai af ao cn ci cf co mc mi mf mn mx m Lc Li Lf Ln Lx W) (hb:Below W.heap.size W W'):Mkr W0 p an ai af ao cn ci cf co mc mi mf mn mx m Lc Li Lf Ln Lx W':=h.keep h.lt hb
theorem Mkr.putX (h:Mkr W0 p an ai af ao cn ci cf co mc mi mf mn mx m Lc Li Lf Ln Lx W) {o:Obj} {L:List (ByteArray × Value)} (hm:MapS (World.putM W mx o) mx L):Mkr W0 p an ai af ao cn ci cf co mc mi mf mn mx m Lc Li Lf Ln L (World.putM W mx o):=by
 have hu:Upon mx W (World.putM W mx o):=upon_putM (Upon.refl _ _) _
 have ho:=h.ord
 exact ⟨below_putM h.low oq _,ho,(hu.block _ h.lt oq).trans h.box,h.c.upon hu oq,h.i.upon hu oq,h.f.upon hu oq,h.nd.upon hu oq,hm⟩
end
theorem mkr_of {w:World} {p:PG} {an ai af ao:Option Addr} {cn ci cf co mc mi mf mn mx m:Nat} {Lc Li Lf Ln:List (ByteArray × Value)} {w':World} (h:MkS w w.heap.size (mkObj p an ai af ao cn ci cf co mc mi mf mn mx) mc mi mf mn mx m w' Lc Li Lf Ln):Mkr w p an ai af ao cn ci cf co mc mi mf mn mx m Lc Li Lf Ln [] w' :=
 ⟨h.low,h.ord,h.box,h.c,h.i,h.f,h.nd,h.x⟩
theorem grown_below {B:Nat} {X Y:World} {row:Option Nat} (hg:X.grownBy Y row) (hr:∀ r,row = some r → B ≤ r ∧ ∃ o:Obj,X.heap[r]? = some o ∧ o.isCells = false) (hB:B ≤ X.heap.size):Below B X Y :=
 ownFrom_below (β:=Unit) (w₀:=X) hB (Nat.le_refl B) () X Y row (Below.refl _ _) hg hr
def callsF:List FL → Nat → List (PE × ByteArray)
 | [],_ => []
 | f :: l,i => (spotsE f.e (dg i)).filter isC ++ callsF l (i + 1)
theorem inI_app:∀ (a b:List ByteArray) (i:Nat) (e:IE),inI (a ++ b) i e = inI b (i + a.length) (inI a i e)
 | [],b,i,e => by simp [inI]
 | k :: a,b,i,e => by
  rw [List.cons_append,inI,inI,inI_app a b (i + 1) _,List.length_cons,show i + 1 + a.length = i + (a.length + 1) by omega]
theorem inI_snoc (a:List ByteArray) (k:ByteArray) (e:IE):inI (a ++ [k]) 0 e = updI (inI a 0 e) k a.length:=by
 rw [inI_app,Nat.zero_add]
 rfl
structure NumI (W0:World) (p:PG) (an ai af ao:Option Addr) (cn ci cf co mc mi mf mn mx m:Nat) (Lc Li Lf Ln:List (ByteArray × Value)) (w:World) (B:Nat) (Ds:List Nat) (ways:List ByteArray) (X:World):Prop where
 mkr:∃ Lx,Mkr W0 p an ai af ao cn ci cf co mc mi mf mn mx m Lc Li Lf Ln Lx X ∧ IxIs Lx (inI ways 0 (fun _ => none))
 up:Upon mx w X
 lt:m < w.heap.size
 size:w.heap.size + 4 ≤ B
 bsize:B ≤ X.heap.size
 b0:Boxed X w.heap.size 120 (.pointer (some ⟨m,0,none⟩))
 b1:Boxed X (w.heap.size + 1) 3 (.int .i64 0)
 b2:Boxed X (w.heap.size + 1 + 1) 39 (.int .i64 0)
 b3:Boxed X (w.heap.size + 1 + 1 + 1) 3 (.int .i64 (ways.length:Int))
 few:ways.length ≤ 30
 marks:Mks w.heap.size Ds X
 under:∀ D ∈ Ds,D < B
section
variable {W0:World} {p:PG} {an ai af ao:Option Addr} {cn ci cf co mc mi mf mn mx m:Nat} {Lc Li Lf Ln:List (ByteArray × Value)} {w:World} {B:Nat} {Ds:List Nat} {ways:List ByteArray} {X Y:World}
theorem Upon.then_below {r B:Nat} {a b c:World} (h:Upon r a b) (k:Below B b c) (hB:a.heap.size ≤ B):Upon r a c :=
 ⟨k.os.trans h.os,k.tape.trans h.tape,k.output.trans h.output,Nat.le_trans h.size k.size,fun i hi hr => (k.block i (Nat.lt_of_lt_of_le hi hB)).trans (h.block i hi hr)⟩
theorem NumI.keep (h:NumI W0 p an ai af ao cn ci cf co mc mi mf mn mx m Lc Li Lf Ln w B Ds ways X) (hb:Below B X Y):NumI W0 p an ai af ao cn ci cf co mc mi mf mn mx m Lc Li Lf Ln w B Ds ways Y:=by
 obtain ⟨Lx,h1,h2⟩:=h.mkr
 have h3:=h.lt
 have h4:=h.size
 exact ⟨⟨Lx,h1.keep oq hb,h2⟩,h.up.then_below hb oq,h3,h4,Nat.le_trans h.bsize hb.size,(hb.block _ oq).trans h.b0,(hb.block _ oq).trans h.b1,(hb.block _ oq).trans h.b2,(hb.block _ oq).trans h.b3,h.few,
  ⟨fun D hD => ⟨(h.marks.1 D hD).1,(hb.block D (h.under D hD)).trans (h.marks.1 D hD).2⟩,h.marks.2⟩,h.under⟩
theorem NumI.more (h:NumI W0 p an ai af ao cn ci cf co mc mi mf mn mx m Lc Li Lf Ln w B Ds ways X) {B':Nat} (h1:B ≤ B') (h2:B' ≤ X.heap.size):NumI W0 p an ai af ao cn ci cf co mc mi mf mn mx m Lc Li Lf Ln w B' Ds ways X :=
 ⟨h.mkr,h.up,h.lt,Nat.le_trans h.size h1,h2,h.b0,h.b1,h.b2,h.b3,h.few,h.marks,fun D hD => Nat.lt_of_lt_of_le (h.under D hD) h1⟩
theorem NumI.own {row:Option Nat} (h:NumI W0 p an ai af ao cn ci cf co mc mi mf mn mx m Lc Li Lf Ln w B Ds ways X) (hg:X.grownBy Y row) (hr:∀ r,row = some r → B ≤ r ∧ ∃ o:Obj,X.heap[r]? = some o ∧ o.isCells = false):NumI W0 p an ai af ao cn ci cf co mc mi mf mn mx m Lc Li Lf Ln w B Ds ways Y :=
 h.keep (grown_below hg hr h.bsize)
theorem NumI.step (h:NumI W0 p an ai af ao cn ci cf co mc mi mf mn mx m Lc Li Lf Ln w B Ds ways X) {Lx:List (ByteArray × Value)} (hM:Mkr W0 p an ai af ao cn ci cf co mc mi mf mn mx m Lc Li Lf Ln Lx X) (hI:IxIs Lx (inI ways 0 (fun _ => none))) (k:ByteArray) {o:Obj}
  (hm:MapS (World.putM X.drew mx o) mx (putS k (.int .i64 (ways.length:Int)) Lx)) (hlt:ways.length < 30) :
  NumI W0 p an ai af ao cn ci cf co mc mi mf mn mx m Lc Li Lf Ln w B Ds (ways ++ [k]) ((World.putM X.drew mx o).setCell ⟨w.heap.size + 1 + 1 + 1,0,none⟩ (.int .i64 ((ways.length:Int) + 1))):=by
 have h3:=h.lt
 have h4:=h.size
 have h5:=h.bsize
 have ho:=hM.ord
 have hu:Upon mx X (World.putM X.drew mx o):=upon_putM (Upon.refl _ _).drew _
 have hM2:=(hM.grow (Below.refl _ _).drew).putX hm
 have hf:∀ k,k ≠ w.heap.size + 1 + 1 + 1 → ((World.putM X.drew mx o).setCell ⟨w.heap.size + 1 + 1 + 1,0,none⟩ (.int .i64 ((ways.length:Int) + 1))).heap[k]? = (World.putM X.drew mx o).heap[k]?:=fun k hk => Below.heap_setCell _ _ _ _ (fun e => hk e)
 have hk:∀ k,k < X.heap.size → k ≠ mx → k ≠ w.heap.size + 1 + 1 + 1 → ((World.putM X.drew mx o).setCell ⟨w.heap.size + 1 + 1 + 1,0,none⟩ (.int .i64 ((ways.length:Int) + 1))).heap[k]? = X.heap[k]?:=fun k h1 h2 h3 => (hf k h3).trans (hu.block k h1 h2)
 refine ⟨⟨_,hM2.keep (B:=w.heap.size) h3 ((Below.refl _ _).setCell (p:=⟨w.heap.size + 1 + 1 + 1,0,none⟩) (by show w.heap.size ≤ w.heap.size + 1 + 1 + 1;omega) _),?_⟩,?_,h3,h4,?_,?_,?_,?_,?_,?_,⟨fun D hD => ⟨(h.marks.1 D hD).1,?_⟩,h.marks.2⟩,h.under⟩
 ·rw [inI_snoc]
  exact hI.put k ways.length
 ·exact (upon_putM h.up.drew _).setCell (p:=⟨w.heap.size + 1 + 1 + 1,0,none⟩) (Or.inr (by show w.heap.size ≤ w.heap.size + 1 + 1 + 1;omega)) _
 ·refine Nat.le_trans h5 (Nat.le_trans hu.size ?_)
  exact ((Below.refl 0 (World.putM X.drew mx o)).setCell (p:=⟨w.heap.size + 1 + 1 + 1,0,none⟩) (Nat.zero_le _) _).size
 ·exact (hk _ oq oq oq).trans h.b0
 ·exact (hk _ oq oq oq).trans h.b1
 ·exact (hk _ oq oq oq).trans h.b2
 ·have hb3:Boxed (World.putM X.drew mx o) (w.heap.size + 1 + 1 + 1) 3 (.int .i64 (ways.length:Int)):=(hu.block _ oq oq).trans h.b3
  have:=hb3.set (.int .i64 ((ways.length:Int) + 1))
  rw [show (((ways ++ [k]).length:Nat):Int) = (ways.length:Int) + 1 by simp]
  exact this
 ·simp;omega
 ·have hD1:=(h.marks.1 D hD).2
  have hne:D ≠ w.heap.size + 1 + 1 + 1:=by
   intro e
   rw [e] at hD1
   have:=h.b3
   unfold Boxed at this
   rw [this] at hD1
   cases hD1
  exact (hk D (lt_of_block hD1) (by have:=(h.marks.1 D hD).1;omega) hne).trans hD1
theorem NumI.mark (h:NumI W0 p an ai af ao cn ci cf co mc mi mf mn mx m Lc Li Lf Ln w B Ds ways X) {D:Nat} (h1:B ≤ D) (h2:X.heap[D]? = some (.deferred (some []))):NumI W0 p an ai af ao cn ci cf co mc mi mf mn mx m Lc Li Lf Ln w X.heap.size (D :: Ds) ways X:=by
 have hs:=h.size
 refine ⟨h.mkr,h.up,h.lt,Nat.le_trans h.size h.bsize,Nat.le_refl _,h.b0,h.b1,h.b2,h.b3,h.few,⟨fun D' hD' => ?_,List.nodup_cons.2 ⟨fun hm => ?_,h.marks.2⟩⟩,fun D' hD' => ?_⟩
 ·rcases List.mem_cons.1 hD' with rfl | hm
  ·exact ⟨by omega,h2⟩
  ·exact h.marks.1 D' hm
 ·have:=h.under D hm
  omega
 ·rcases List.mem_cons.1 hD' with rfl | hm
  ·exact lt_of_block h2
  ·have:=h.under D' hm
   have:=h.bsize
   omega
structure NumX (W0 w:World) (B:Nat) (Ds:List Nat) (X:World):Prop where
 low:Below W0.heap.size W0 X
 size:w.heap.size + 4 ≤ B
 bsize:B ≤ X.heap.size
 b1:∃ a,Boxed X (w.heap.size + 1) 3 (.int .i64 a)
 b2:Boxed X (w.heap.size + 1 + 1) 39 (.int .i64 8)
 marks:Mks w.heap.size Ds X
 under:∀ D ∈ Ds,D < B
end
section
variable {W0 w:World} {B:Nat} {Ds:List Nat} {X Y:World}
theorem NumX.own (hlow:W0.heap.size ≤ w.heap.size) {row:Option Nat} (h:NumX W0 w B Ds X) (hg:X.grownBy Y row) (hr:∀ r,row = some r → B ≤ r ∧ ∃ o:Obj,X.heap[r]? = some o ∧ o.isCells = false):NumX W0 w B Ds Y:=by
 have hb:=grown_below hg hr h.bsize
 have hs:=h.size
 obtain ⟨a,h1⟩:=h.b1
 exact ⟨h.low.trans (hb.mono oq),hs,Nat.le_trans h.bsize hb.size,⟨a,(hb.block _ oq).trans h1⟩,(hb.block _ oq).trans h.b2,⟨fun D hD => ⟨(h.marks.1 D hD).1,(hb.block D (h.under D hD)).trans (h.marks.1 D hD).2⟩,h.marks.2⟩,h.under⟩
end
def NumAns (W0:World) (p:PG) (an ai af ao:Option Addr) (cn ci cf co mc mi mf mn mx m:Nat) (Lc Li Lf Ln:List (ByteArray × Value)) (w:World) (x:Ending) (w':World):Prop :=
 (∃ a,x = .returned (.tuple #[.int .i64 a,.int .i64 8]) ∧ 30 < (callsF p.flows 0).length ∧ Below W0.heap.size W0 w') ∨
  (x = .returned (.tuple #[.int .i64 0,.int .i64 0]) ∧ (callsF p.flows 0).length ≤ 30 ∧ Upon mx w w' ∧ ∃ Lx,Mkr W0 p an ai af ao cn ci cf co mc mi mf mn mx m Lc Li Lf Ln Lx w' ∧ IxIs Lx (inI ((callsF p.flows 0).map Prod.snd) 0 (fun _ => none)))
theorem callsF_drop {l:List FL} {i:Nat} (h:i < l.length) (j:Nat):callsF (l.drop i) j = (spotsE l[i].e (dg j)).filter isC ++ callsF (l.drop (i + 1)) (j + 1):=by
 rw [List.drop_eq_getElem_cons h]
 rfl
set_option maxRecDepth 100000 in
set_option maxHeartbeats 4000000 in
theorem number_any {W0 w:World} (p:PG) (an ai af ao:Option Addr) (cn ci cf co:Nat) (hp:AP W0 p an ai af ao cn ci cf co) (hok:PgOK p) (mc mi mf mn mx m:Nat) (Lc Li Lf Ln:List (ByteArray × Value)) (hM:Mkr W0 p an ai af ao cn ci cf co mc mi mf mn mx m Lc Li Lf Ln [] w) :
  Calls Tryz.prog 51 #[.pointer (some ⟨m,0,none⟩)] w (NumAns W0 p an ai af ao cn ci cf co mc mi mf mn mx m Lc Li Lf Ln w):=by
 have hlm:=hM.lt
 have hw0:=hM.low.size
 have hll:=hok.lens
 have HM:=hid hM
 obtain ⟨⟨x0,x1,x2,x3,x4,x5,x6,x7,x8⟩,xf⟩:=cells9m (show w.heap[m]? = _ from hM.box)
 have hl1:m < w.heap.size + 1:=by omega
 have hl2:m < w.heap.size + 1 + 1:=by omega
 have hl3:m < w.heap.size + 1 + 1 + 1:=by omega
 have hl4:m < w.heap.size + 1 + 1 + 1 + 1:=by omega
 clear hM
 refine (callsIn_wide (n:=6)).1 ?_
 refine callsIn_of_wp_marks Tryz.func51 rfl trivial ?_ rfl
 simp only [Tryz.ntmps51,List.size_toArray,List.length_cons,List.length_nil,Nat.reduceAdd,Nat.reduceSub,Array.replicate_succ,Array.replicate_zero,List.push_toArray,List.append_toArray,List.nil_append,List.cons_append]
 gi_wp2
 obtain ⟨W4,hW4⟩:∃ W4,(((w.alloc (.cells #[.pointer (some ⟨m,0,none⟩)] 120)).alloc (.cells #[.int .i64 0] 3)).alloc (.cells #[.int .i64 0] 39)).alloc (.cells #[.int .i64 0] 3) = W4:=⟨_,rfl⟩
 rw [hW4]
 have hB4:Below w.heap.size w W4:=by rw [← hW4];exact bq
 have hs4:W4.heap.size = w.heap.size + 4:=by rw [← hW4];simp
 have HN4:=hid (show NumI W0 p an ai af ao cn ci cf co mc mi mf mn mx m Lc Li Lf Ln w W4.heap.size [] [] W4 from ⟨⟨[],HM.out.grow hB4,fun _ => rfl⟩,Upon.of_below hB4,hlm,by omega,Nat.le_refl _,
  by rw [← hW4];exact (((Boxed.new _ _ _).alloc _).alloc _).alloc _,by rw [← hW4];have:=((Boxed.new (w.alloc (.cells #[.pointer (some ⟨m,0,none⟩)] 120)) 3 (.int .i64 0)).alloc (.cells #[.int .i64 0] 39)).alloc (.cells #[.int .i64 0] 3);simpa using this,
  by rw [← hW4];have:=(Boxed.new ((w.alloc (.cells #[.pointer (some ⟨m,0,none⟩)] 120)).alloc (.cells #[.int .i64 0] 3)) 39 (.int .i64 0)).alloc (.cells #[.int .i64 0] 3);simpa using this,
  by rw [← hW4];have:=Boxed.new (((w.alloc (.cells #[.pointer (some ⟨m,0,none⟩)] 120)).alloc (.cells #[.int .i64 0] 3)).alloc (.cells #[.int .i64 0] 39)) 3 (.int .i64 0);simpa using this,by simp,⟨by simp,List.nodup_nil⟩,by simp⟩)
 clear hW4 hB4 x0 x1 x2 x3 x4 x5 x6 x7 x8 xf hl1 hl2 hl3 hl4
 refine wpIn_loop (fun a' wr => ∃ (u5 u14 u15 u16 u17 u18 u34:Value) (i:Nat) (Ds:List Nat) (dn:List (PE × ByteArray)),(i ≤ p.flows.length ∧ dn ++ callsF (p.flows.drop i) i = callsF p.flows 0 ∧ NumI W0 p an ai af ao cn ci cf co mc mi mf mn mx m Lc Li Lf Ln w wr.heap.size Ds (dn.map Prod.snd) wr) ∧
  a' = { tmps:=#[.pointer (some ⟨m,0,none⟩),.pointer (some ⟨w.heap.size,0,none⟩),.pointer (some ⟨w.heap.size + 1,0,none⟩),.pointer (some ⟨w.heap.size + 1 + 1,0,none⟩),.pointer (some ⟨w.heap.size + 1 + 1 + 1,0,none⟩),u5,undef,.pointer (some ⟨m,0,none⟩),.pointer (some ⟨m,0,none⟩),.pointer (some ⟨m,0,none⟩),.pointer (some ⟨m,2,none⟩),.slice af p.flows.length cf,.int .i64 (p.flows.length:Int),.int .i64 (i:Int),u14,u15,u16,u17,u18,undef,undef,undef,undef,undef,undef,undef,undef,undef,undef,undef,undef,undef,undef,undef,u34],defers:=Ds.map mk })
  (fun a' _ => p.flows.length - (intOf (a'.tmps.getD 13 undef)).toNat) ⟨_,_,_,_,_,_,_,0,[],[],⟨Nat.zero_le _,rfl,HN4.out⟩,rfl⟩ ?_
 rintro _ wr ⟨u5,u14,u15,u16,u17,u18,u34,i,Ds,dn,⟨hi,hdn,hN⟩,rfl⟩
 dsimp only
 have HN:=hid hN
 have c0:=hN.b0.cell
 have hsw:=Nat.le_trans hN.size hN.bsize
 clear hN HN4
 by_cases hlt:i < p.flows.length
 ·have hil:(i:Int) < (p.flows.length:Int):=by omega
  rw [callsF_drop hlt] at hdn
  have HDN:=hid hdn
  clear hdn
  gi_wp2_with (refine ⟨trivial,?_⟩;gi_at_call 97;refine (callsIn_wide.2 (fcalls_any (w:=wr) m i)).mono ?_;rintro x w5 ⟨rfl,rfl⟩)
  obtain ⟨W5,hW5⟩:∃ W5,(wr.alloc (.cells #[.pointer (some ⟨m,0,none⟩)] 120)).alloc (.cells #[.int .i64 (i:Int)] 3) = W5:=⟨_,rfl⟩
  rw [hW5]
  have hB5:Below wr.heap.size wr W5:=by rw [← hW5];exact bq
  have hs5:W5.heap.size = wr.heap.size + 2:=by rw [← hW5];simp
  have bx1:Boxed W5 wr.heap.size 120 (.pointer (some ⟨m,0,none⟩)):=by rw [← hW5];exact (Boxed.new _ _ _).alloc _
  have bx2:Boxed W5 (wr.heap.size + 1) 3 (.int .i64 (i:Int)):=by rw [← hW5];have:=Boxed.new (wr.alloc (.cells #[.pointer (some ⟨m,0,none⟩)] 120)) 3 (.int .i64 (i:Int));simpa using this
  clear hW5
  have HN5:=hid ((HN.out.keep hB5).more (B':=W5.heap.size) oq (Nat.le_refl _))
  obtain ⟨Lx5,hM5,_⟩:=HN5.out.mkr
  have hB05:Below W0.heap.size W0 W5:=hM5.low
  have HBX:=hid hM5.box
  have hw5:=hB05.size
  have hlm5:=HN5.out.lt
  refine rangeC (w:=W5) (encs:=fun x:VS W0 => #[.agg #[.int .i64 x.s.1.k,.string x.s.1.nm,.int .i64 x.s.1.n,.int .i64 x.s.1.d,.slice x.ad x.s.1.args.len x.cap,.int .i64 x.s.1.a,.string x.s.2]]) rfl oq (gf:=141) (lb:=#[.pointer (some ⟨wr.heap.size,0,none⟩),.pointer (some ⟨wr.heap.size + 1,0,none⟩)]) rfl trivial (enters_of Tryz.func141 (by kernel_rfl) rfl) (n₀:=W0.heap.size) (Bk:=wr.heap.size) hw5
   (fcalls_seqC p an ai af ao cn ci cf co hp hok mc mi mf mn mx m wr.heap.size (wr.heap.size + 1) i _ hlt W5 wr.heap.size oq hB05 HBX.out bx1 bx2) (fun _ => rfl)
   (fun pre X => NumI W0 p an ai af ao cn ci cf co mc mi mf mn mx m Lc Li Lf Ln w W5.heap.size Ds ((dn ++ pre.map (fun y:VS W0 => y.s)).map Prod.snd) X)
   (fun pre X => NumX W0 w W5.heap.size Ds X ∧ 31 ≤ dn.length + pre.length)
   (fun s X Y row hs hg hr => hs.own hg hr) (fun s X Y row hs hg hr => ⟨hs.1.own oq hg hr,hs.2⟩) (by simpa using HN5.out)
   (fun x a' X => ∃ Bx,W5.heap.size ≤ Bx ∧ X.heap[Bx]? = some (.cells #[.int .i64 x.s.1.k,.string x.s.1.nm,.int .i64 x.s.1.n,.int .i64 x.s.1.d,.slice x.ad x.s.1.args.len x.cap,.int .i64 x.s.1.a,.string x.s.2] 182 (0,0)) ∧
    a' = { tmps:=#[.pointer (some ⟨m,0,none⟩),.pointer (some ⟨w.heap.size,0,none⟩),.pointer (some ⟨w.heap.size + 1,0,none⟩),.pointer (some ⟨w.heap.size + 1 + 1,0,none⟩),.pointer (some ⟨w.heap.size + 1 + 1 + 1,0,none⟩),.int .i64 (i:Int),.pointer (some ⟨Bx,0,none⟩),.pointer (some ⟨m,0,none⟩),.pointer (some ⟨m,0,none⟩),.pointer (some ⟨m,0,none⟩),.pointer (some ⟨m,2,none⟩),.slice af p.flows.length cf,.int .i64 (p.flows.length:Int),.int .i64 (i:Int),.bool true,.int .i64 (i:Int),.pointer (some ⟨m,0,none⟩),.int .i64 (i:Int),.func (.func 141) #[] #[.pointer (some ⟨wr.heap.size,0,none⟩),.pointer (some ⟨wr.heap.size + 1,0,none⟩)],.agg #[.int .i64 x.s.1.k,.string x.s.1.nm,.int .i64 x.s.1.n,.int .i64 x.s.1.d,.slice x.ad x.s.1.args.len x.cap,.int .i64 x.s.1.a,.string x.s.2],undef,undef,undef,undef,undef,undef,undef,undef,undef,undef,undef,undef,undef,undef,u34],defers:=[] })
   (fun x a' _ X Y row hs hg hrw => by
    obtain ⟨Bx,h1,h2,h3⟩:=hs
    refine ⟨Bx,h1,(hg.block Bx (Array.getElem?_eq_some_iff.1 h2).1 (fun e => ?_)).trans h2,h3⟩
    obtain ⟨_,o,ho,hc⟩:=hrw Bx e.symm
    rw [h2] at ho;cases ho;cases hc)
   ?assign ?body ?done ?stop
  case assign =>
   rintro l2 pre x X K hIX hK
   gi_wp2
   exact hK _ _ ((Below.refl _ _).alloc (Nat.le_refl _) _) (hIX.keep (((Below.refl _ _).alloc (Nat.le_refl _) _).mono hIX.bsize)) ⟨X.heap.size,hIX.bsize,heap_new X _,rfl⟩
  case body =>
   rintro l2 pre ⟨⟨⟨k2,nm2,n2,d2,args2,a2⟩,way2⟩,ad3,cap3,hok3⟩ a' X hl2' ⟨r,hr⟩ hIX ⟨Bx,hBx,hxb,rfl⟩ hlt2
   simp only at hxb
   obtain ⟨Lx,hMX,hIxX⟩:=hIX.mkr
   have hfew:=hIX.few
   obtain ⟨ways,hways⟩:∃ ways,(dn ++ pre.map (fun y:VS W0 => y.s)).map Prod.snd = ways:=⟨_,rfl⟩
   have HWL:=hid (show ways.length = dn.length + pre.length by rw [← hways];simp)
   rw [hways] at hIX hIxX hfew
   have b3:=hIX.b3
   have c0:=hIX.b0.cell
   have c1:=hIX.b1.cell
   have f1:=hIX.b1.frozen
   have c2:=hIX.b2.cell
   have f2:=hIX.b2.frozen
   obtain ⟨⟨x0,x1,x2,x3,x4,x5,x6⟩,xf⟩:=cells7s hxb
   obtain ⟨⟨z0,z1,z2,z3,z4,z5,z6,z7,z8⟩,zf⟩:=cells9m (show X.heap[m]? = _ from hMX.box)
   have hX5:=hIX.bsize
   have hord:=hMX.ord
   by_cases h30:ways.length = 30
   ·rw [h30] at b3
    have c3:=b3.cell
    have HIX:=hid hIX
    have hbx1:=hIX.b1
    have hbx2:=hIX.b2
    clear hIX hMX hIxX b3 hr
    gi_wp2
    have hset:∀ k,k ≠ w.heap.size + 1 → k ≠ w.heap.size + 1 + 1 → ((X.setCell ⟨w.heap.size + 1,0,none⟩ (.int .i64 a2)).setCell ⟨w.heap.size + 1 + 1,0,none⟩ (.int .i64 8)).heap[k]? = X.heap[k]?:=fun k h1 h2 => by
     rw [Below.heap_setCell _ _ _ _ (fun e => h2 e),Below.heap_setCell _ _ _ _ (fun e => h1 e)]
    have hbl:∀ B,B ≤ w.heap.size + 1 → Below B X ((X.setCell ⟨w.heap.size + 1,0,none⟩ (.int .i64 a2)).setCell ⟨w.heap.size + 1 + 1,0,none⟩ (.int .i64 8)):=fun B hB => ((Below.refl _ _).setCell (p:=⟨w.heap.size + 1,0,none⟩) hB _).setCell (p:=⟨w.heap.size + 1 + 1,0,none⟩) (by show B ≤ w.heap.size + 1 + 1;omega) _
    refine ⟨⟨(hbl 0 oq).size,fun k o hk ho hc => (hset k oq oq).trans ho⟩,rfl,⟨?_,by omega,Nat.le_trans HIX.out.bsize (hbl 0 oq).size,⟨a2,?_⟩,?_,?_,HIX.out.under⟩,by rw [List.length_append,List.length_cons,List.length_nil];have:=HWL.out;omega⟩
    ·obtain ⟨Lx,hMX,_⟩:=HIX.out.mkr
     exact hMX.low.trans (hbl _ oq)
    ·exact (hbx1.set (.int .i64 a2)).other oq _
    ·exact (hbx2.other oq _).set _
    ·exact (HIX.out.marks.set _ _).set _ _
   ·have hn30:((ways.length:Int) == 30) = false:=beq_eq_false_iff_ne.2 oq
    have h30':ways.length < 30:=by omega
    have c3:=b3.cell
    have HIX:=hid hIX
    have HMX:=hid hMX
    have HIXX:=hid hIxX
    clear hIX hMX hIxX b3 hr h30 hfew
    gi_wp2
    refine still_tail_round 7 (by kernel_rfl) (by kernel_rfl) ?hlet (by kernel_rfl) ?_
    case hlet => rintro ⟨_,_,h⟩;exact h
    simp only [List.take_succ_cons,List.take_zero,List.drop_succ_cons,List.drop_zero]
    repeat still_step
    try refine wpStill_nil ?_
    change wpList _ _ _ _ _ X.drew
    go_wp2_with (at_mapUpdate;refine wpList_putS waysMap _ rfl _ _ _ rfl mx Lx way2 (.int .i64 (ways.length:Int)) rfl rfl rfl (show MapS X.drew _ _ from HMX.out.x) ?_;intro arr clock hm2)
    have hu2:Upon mx X (World.putM X.drew mx (.map arr clock)):=upon_putM (Upon.refl _ _).drew _
    have HST:=hid (HIX.out.step HMX.out HIXX.out way2 hm2 h30')
    obtain ⟨W2,hW2⟩:∃ W2,World.putM X.drew mx (.map arr clock) = W2:=⟨_,rfl⟩
    rw [hW2] at hu2 HST ⊢
    have b3:Boxed W2 (w.heap.size + 1 + 1 + 1) 3 (.int .i64 (ways.length:Int)):=(hu2.block _ oq oq).trans HIX.out.b3
    have c3':=b3.cell
    have f3':=b3.frozen
    have hi64:IntKind.i64.wrap ((ways.length:Int) + 1) = (ways.length:Int) + 1:=IntWalk.i64_in _ oq
    gi_wp2
    have hset:∀ k,k < X.heap.size → k ≠ mx → k ≠ w.heap.size + 1 + 1 + 1 → (W2.setCell ⟨w.heap.size + 1 + 1 + 1,0,none⟩ (.int .i64 ((ways.length:Int) + 1))).heap[k]? = X.heap[k]?:=fun k h1 h2 h3 => by
     rw [Below.heap_setCell _ _ _ _ (fun e => h3 e)]
     exact hu2.block k h1 h2
    have hszz:X.heap.size ≤ (W2.setCell ⟨w.heap.size + 1 + 1 + 1,0,none⟩ (.int .i64 ((ways.length:Int) + 1))).heap.size:=Nat.le_trans hu2.size ((Below.refl 0 W2).setCell (p:=⟨w.heap.size + 1 + 1 + 1,0,none⟩) (Nat.zero_le _) _).size
    refine ⟨⟨hszz,fun k o hk ho hc => (hset k (lt_of_block ho) oq oq).trans ho⟩,⟨?_,fun k o hk ho hc => (hset k (lt_of_block ho) oq oq).trans ho⟩,?_⟩
    ·exact (hu2.below oq oq).setCell (p:=⟨w.heap.size + 1 + 1 + 1,0,none⟩) (by show W0.heap.size ≤ w.heap.size + 1 + 1 + 1;omega) _
    ·have e:((dn ++ (pre ++ [(⟨(⟨k2,nm2,n2,d2,args2,a2⟩,way2),ad3,cap3,hok3⟩:VS W0)]).map (fun y:VS W0 => y.s)).map Prod.snd) = ways ++ [way2]:=by rw [← hways];simp
     show NumI W0 p an ai af ao cn ci cf co mc mi mf mn mx m Lc Li Lf Ln w W5.heap.size Ds ((dn ++ (pre ++ [(⟨(⟨k2,nm2,n2,d2,args2,a2⟩,way2),ad3,cap3,hok3⟩:VS W0)]).map (fun y:VS W0 => y.s)).map Prod.snd) _
     rw [e]
     exact HST.out
  case done =>
   rintro D zs X hD hzs hIX hK
   gi_wp2
   rw [show ((i:Int) + 1) = ((i + 1:Nat):Int) by omega]
   refine ⟨⟨_,_,_,_,_,_,_,i + 1,D :: Ds,dn ++ zs.map (·.s),⟨by omega,?_,hIX.mark hD hK⟩,rfl⟩,by simp [intOf];omega⟩
   rw [hzs,List.append_assoc]
   exact HDN.out
  case stop =>
   rintro D pre X hD hpre ⟨hX,h31⟩ hK
   obtain ⟨a,bA⟩:=hX.b1
   have bE:=hX.b2
   have hlow:=hX.low
   gi_wp2
   refine leaves_mks (n₀:=w.heap.size) (D :: Ds) _ ⟨fun D' hD' => ?_,List.nodup_cons.2 ⟨fun hm => ?_,hX.marks.2⟩⟩ (fun w' hk => ?_)
   ·rcases List.mem_cons.1 hD' with rfl | hm
    ·exact ⟨by omega,hK⟩
    ·exact hX.marks.1 D' hm
   ·have:=hX.under D hm
    omega
   ·have bA4:=(show Boxed w' _ _ _ from hk.same _ _ bA rfl).cell
    have bE4:=(show Boxed w' _ _ _ from hk.same _ _ bE rfl).cell
    refine ⟨.tuple #[.int .i64 a,.int .i64 8],?_,?_⟩
    ·simp only [results,Tryz.results51];go_simp
    ·refine .inl ⟨a,rfl,?_,hlow.trans (hk.below.mono oq)⟩
     obtain ⟨q,hq⟩:=hpre
     have h1:=congrArg List.length HDN.out
     have h2:=congrArg List.length hq
     simp only [List.length_append,List.length_map] at h1 h2
     omega
 ·have hie0:i = p.flows.length:=by omega
  have hie:¬ (i:Int) < (p.flows.length:Int):=by omega
  have bA2:=HN.out.b1
  have bE2:=HN.out.b2
  have cA:=bA2.cell
  have fA:=bA2.frozen
  have cE:=bE2.cell
  have fE:=bE2.frozen
  gi_wp2
  refine leaves_mks Ds _ ((HN.out.marks.set _ _).set _ _) (fun w' hk => ?_)
  have bA3:=hk.same _ _ ((bA2.set (.int .i64 0)).other (show w.heap.size + 1 ≠ w.heap.size + 1 + 1 by omega) (.int .i64 0)) rfl
  have bE3:=hk.same _ _ ((bE2.other (show w.heap.size + 1 + 1 ≠ w.heap.size + 1 by omega) (.int .i64 0)).set (.int .i64 0)) rfl
  have bA4:=(show Boxed w' _ _ _ from bA3).cell
  have bE4:=(show Boxed w' _ _ _ from bE3).cell
  refine ⟨.tuple #[.int .i64 0,.int .i64 0],?_,.inr ⟨rfl,?_,?_,?_⟩⟩
  ·simp only [results,Tryz.results51];go_simp
  ·rw [hie0,List.drop_length,callsF,List.append_nil] at hdn
   have:=HN.out.few
   rw [← hdn]
   simpa using this
  ·exact (((HN.out.up.setCell (p:=⟨w.heap.size + 1,0,none⟩) (Or.inr (by show w.heap.size ≤ w.heap.size + 1;omega)) _)).setCell (p:=⟨w.heap.size + 1 + 1,0,none⟩) (Or.inr (by show w.heap.size ≤ w.heap.size + 1 + 1;omega)) _).then_below hk.below (Nat.le_refl _)
  ·obtain ⟨Lx,hMX,hIX⟩:=HN.out.mkr
   rw [hie0,List.drop_length,callsF,List.append_nil] at hdn
   rw [hdn] at hIX
   exact ⟨Lx,hMX.keep (B:=w.heap.size) hlm ((((Below.refl _ _).setCell (p:=⟨w.heap.size + 1,0,none⟩) (by show w.heap.size ≤ w.heap.size + 1;omega) _).setCell (p:=⟨w.heap.size + 1 + 1,0,none⟩) (by show w.heap.size ≤ w.heap.size + 1 + 1;omega) _).trans hk.below),hIX⟩
end Go.Proofs.YtpjficjlfibibaaGreatDoor.syn
namespace Go.Proofs
open Go.Shelf
def Tryz.laysSlE035_ren:Go.Shelf.Ren:=⟨fun | 35 => 145 | n => n,fun | 22 => 71 | 23 => 199 | 3 => 3 | 4 => 4 | 0 => 0 | n => n,fun | n => n⟩
theorem Tryz.laysSlE035:Go.Proofs.SlLaysE0.n35 Tryz.prog Tryz.laysSlE035_ren:={
 mixed:=by kernel_rfl
 f35:=⟨Tryz.f145.name,by decide,Tryz.func145.trans (congrArg some (by kernel_rfl))⟩
 t0:=Tryz.underlying0
 a0:=Tryz.isAgg0
 z0:=Tryz.sizeOf0
 v0:=Tryz.zeroValue0
 t3:=Tryz.underlying3
 a3:=Tryz.isAgg3
 z3:=Tryz.sizeOf3
 v3:=Tryz.zeroValue3
 t4:=Tryz.underlying4
 a4:=Tryz.isAgg4
 z4:=Tryz.sizeOf4
 v4:=Tryz.zeroValue4
 t22:=Tryz.underlying71
 a22:=Tryz.isAgg71
 z22:=Tryz.sizeOf71
 v22:=Tryz.zeroValue71 }
open Go.Sort in
theorem Tryz.slices_Reverse {α:Type} [Inhabited α] (k:Nat) (aE:∀ w,(isAgg (Tryz.laysSlE035_ren.t 23)).run Tryz.prog w = .ok true w) (zE:∀ w,(Go.sizeOf (Tryz.laysSlE035_ren.t 23)).run Tryz.prog w = .ok k w) (enc:α → List Value) (hk:∀ x,(enc x).length = k) (h1:∀ x,∀ v ∈ enc x,v.oneCell' = true) (blk off cap:Nat) (d:Array α) (w:World) (hH:HoldsK enc k w blk off d) (hsz:d.size ≤ 9223372036854775807) :
  Calls Tryz.prog 145 #[.slice (some ⟨blk,off,none⟩) d.size cap] w fun e w' => e = .returned (.tuple #[]) ∧ ∃ n,w' = putRowK enc k (Sort.ahead w n) blk off d.reverse:=AnyQ.slices_Reverse Tryz.laysSlE035 k aE zE enc hk h1 blk off cap d w hH hsz
end Go.Proofs
namespace Go.Proofs.YtpjficjlfibibaaGreatDoor.syn
open Go.RowKit Go.Shelf
set_option linter.unusedVariables false
set_option linter.unusedSimpArgs false
abbrev Op3:Type:=Int × Int × Int
def opL (o:Op3):List Value:=[.int .i64 o.1,.int .i64 o.2.1,.int .i64 o.2.2]
def opsV:List Op3 → List Value
 | [] => []
 | o :: l => .int .i64 o.1 :: .int .i64 o.2.1 :: .int .i64 o.2.2 :: opsV l
theorem opsV_len:∀ l:List Op3,(opsV l).length = l.length * 3
 | [] => rfl
 | o :: l => by simp only [opsV,List.length_cons,opsV_len l];omega
theorem opsV_app:∀ a b:List Op3,opsV (a ++ b) = opsV a ++ opsV b
 | [],b => rfl
 | o :: a,b => by simp only [List.cons_append,opsV,opsV_app a b]
theorem opsV_get:∀ (l:List Op3) (t:Nat),t < l.length * 3 → (opsV l)[t]? = some ((opL (l[t / 3]!))[t % 3]!)
 | [],t,h => by simp at h
 | o :: l,0,h => rfl
 | o :: l,1,h => rfl
 | o :: l,2,h => rfl
 | o :: l,t + 3,h => by
  have e1:(t + 3) / 3 = t / 3 + 1:=by omega
  have e2:(t + 3) % 3 = t % 3:=by omega
  simp only [opsV,List.getElem?_cons_succ,e1,e2]
  rw [opsV_get l t (by simp only [List.length_cons] at h;omega)]
  simp
theorem flat_ops (l:List Op3):(Go.Sort.flatK opL 3 l.toArray).toList = opsV l:=by
 apply List.ext_getElem?
 intro t
 by_cases h:t < l.length * 3
 ·rw [opsV_get l t h]
  have h2:t < (Go.Sort.flatK opL 3 l.toArray).size:=by simpa using h
  have h3:=Go.Sort.get_flatK opL 3 l.toArray t (by simpa using h)
  rw [getElem!_pos _ t h2] at h3
  rw [Array.getElem?_toList,Array.getElem?_eq_getElem h2,h3]
  simp
 ·rw [List.getElem?_eq_none (by simp;omega),List.getElem?_eq_none (by rw [opsV_len];omega)]
theorem aggOp:∀ w,(isAgg 199).run Tryz.prog w = .ok true w:=fun w => by kernel_rfl
theorem sizeOp:∀ w,(Go.sizeOf 199).run Tryz.prog w = .ok 3 w:=fun w => by kernel_rfl
theorem reverse_any {w:World} {base:Nat} {v:Value} {ops:List Op3} (h:w.ownsRow base 199 3 v ops.length (opsV ops)) (hl:ops.length ≤ 1000) (hn:ops ≠ []) :
  Calls Tryz.prog 145 #[v] w fun e w' => e = .returned (.tuple #[]) ∧ w'.ownsRow base 199 3 v ops.length (opsV ops.reverse) ∧ w.grownBy w' v.ownBlock:=by
 obtain ⟨g,cap,rfl,hb,hg⟩:=h.form (List.length_pos_iff.2 hn)
 have hH:Go.Sort.HoldsK opL 3 w g 0 ops.toArray:=by
  intro j hj
  have hj':j < ops.length * 3:=by simpa using hj
  refine ⟨?_,?_⟩
  ·rw [Nat.zero_add,h.cellAt j hj',opsV_get ops j hj',Go.Sort.get_flatK opL 3 ops.toArray j (by simpa using hj')]
   simp
  ·rw [Nat.zero_add]
   exact h.frozenAt j
 refine (Tryz.slices_Reverse 3 aggOp sizeOp opL (fun _ => rfl) (fun x v hv => by simp [opL] at hv;rcases hv with rfl | rfl | rfl <;> rfl) g 0 cap ops.toArray w hH (by simp;omega)).mono ?_
 rintro e w' ⟨rfl,n,rfl⟩
 obtain ⟨h1,h2 | ⟨g',cap',cur,hv,hb',hgg,hnc,hcm,hcs,htk⟩⟩:=h
 ·obtain ⟨h2,_⟩:=h2;cases h2
 cases hv
 refine ⟨rfl,⟨by rw [opsV_len,List.length_reverse],.inr ⟨g,cap,Go.Sort.putCells id 0 (Go.Sort.flatK opL 3 ops.toArray.reverse) cur,rfl,hb',?_,hnc,hcm,?_,?_⟩⟩,⟨rfl,rfl,rfl,?_,?_⟩⟩
 ·simp [Go.Sort.putRowK,Go.Sort.putRow,Go.Sort.mapBlock,Go.Sort.ahead,Array.getElem?_modify,hgg,Go.Sort.onCells]
 ·simp [Go.Sort.putCells,hcs]
 ·rw [← flat_ops,show ops.reverse.toArray = ops.toArray.reverse by simp]
  apply List.ext_getElem?
  intro t
  have hle:=Nat.mul_le_mul_right 3 hnc
  by_cases ht:t < ops.length * 3
  ·rw [List.getElem?_take_of_lt ht,Array.getElem?_toList,Array.getElem?_toList]
   have hs2:t < (Go.Sort.flatK opL 3 ops.toArray.reverse).size:=by simpa using ht
   rw [Array.getElem?_eq_getElem hs2]
   unfold Go.Sort.putCells
   rw [Array.getElem?_mapIdx,Array.getElem?_eq_getElem (by rw [hcs];omega)]
   simp only [Option.map_some,Nat.zero_le,Nat.zero_add,true_and,Nat.sub_zero,id]
   rw [if_pos hs2,getElem!_pos _ t hs2]
  ·rw [List.getElem?_eq_none (by simp;omega),List.getElem?_eq_none (by simp;omega)]
 ·simp [Go.Sort.putRowK,Go.Sort.putRow,Go.Sort.mapBlock,Go.Sort.ahead]
 ·intro k hk hne
  have hne':¬ g = k:=fun e => hne (by rw [← e];rfl)
  simp [Go.Sort.putRowK,Go.Sort.putRow,Go.Sort.mapBlock,Go.Sort.ahead,Array.getElem?_modify,hne']
theorem reverse_none {w:World} {ad:Option Addr} {cap:Nat} :
  Calls Tryz.prog 145 #[.slice ad 0 cap] w fun e w' => e = .returned (.tuple #[]) ∧ w' = w:=by
 go_enter Tryz.func145,Tryz.ntmps145
 go_wp2
 go_loopw [2,3] (fun a b wr => a = .int .i64 0 ∧ b = .int .i64 (-1) ∧ wr = w) (fun _ _ _ => 0)
 case atStart => exact ⟨rfl,rfl,rfl⟩
 case round =>
  obtain ⟨rfl,rfl,rfl⟩:=hrel
  go_wp2
  go_end0
  exact ⟨rfl,rfl⟩
noncomputable def leastN (P:Nat → Prop):Nat:=@Classical.epsilon Nat ⟨0⟩ (fun n => P n ∧ ∀ m,P m → n ≤ m)
theorem leastN_spec {P:Nat → Prop} (h:∃ n,P n):P (leastN P) ∧ ∀ m,P m → leastN P ≤ m:=by
 refine Classical.epsilon_spec (p:=fun n => P n ∧ ∀ m,P m → n ≤ m) ?_
 obtain ⟨n,hn⟩:=h
 induction n using Nat.strongRecOn with
 | _ n ih =>
  by_cases hm:∃ m,m < n ∧ P m
  ·obtain ⟨m,h1,h2⟩:=hm
   exact ih m h1 h2
  ·exact ⟨n,hn,fun m h2 => Nat.le_of_not_lt (fun h1 => hm ⟨m,h1,h2⟩)⟩
def argGo (flows:List FL) (nI:Nat) (xIx fIx iIx:IE):Nat → PE → ByteArray → List Op3 → Option (Nat × List Op3)
 | 0,_,_,_ => none
 | N + 1,e,way,ops =>
  if 20 < ops.length then some (0,ops)
  else if e.k = 2 then some (nI + (xIx way).getD 0,ops)
  else if e.k ≠ 1 then (match e.args.at 0 with
   | some c => argGo flows nI xIx fIx iIx N c (way ++ ⟨#[47]⟩ ++ dg 0) (ops ++ [(e.k,e.n,e.d)])
   | none => none)
  else match fIx e.nm with
   | some j => (match flows[j]? with
    | some f => argGo flows nI xIx fIx iIx N f.e (dg j) ops
    | none => none)
   | none => some ((iIx e.nm).getD 0,ops)
def ArgEnds (flows:List FL) (nI:Nat) (xIx fIx iIx:IE) (e:PE):Prop:=∃ N,∀ way ops,argGo flows nI xIx fIx iIx N e way ops ≠ none
section
variable {flows:List FL} {nI:Nat} {xIx fIx iIx:IE}
theorem argEnds_call {e:PE} (h:e.k = 2):ArgEnds flows nI xIx fIx iIx e:=⟨1,fun way ops => by
 rw [argGo]
 by_cases hl:20 < ops.length
 ·rw [if_pos hl];exact Option.some_ne_none _
 ·rw [if_neg hl,if_pos h];exact Option.some_ne_none _⟩
theorem argEnds_op {e c:PE} (h2:e.k ≠ 2) (h1:e.k ≠ 1) (hc:e.args.at 0 = some c) (h:ArgEnds flows nI xIx fIx iIx c):ArgEnds flows nI xIx fIx iIx e:=by
 obtain ⟨N,hN⟩:=h
 refine ⟨N + 1,fun way ops => ?_⟩
 rw [argGo]
 by_cases hl:20 < ops.length
 ·rw [if_pos hl];exact Option.some_ne_none _
 ·rw [if_neg hl,if_neg h2,if_pos h1,hc]
  exact hN _ _
theorem argEnds_name {e:PE} (h1:e.k = 1) (h:∀ j,fIx e.nm = some j → ∃ f,flows[j]? = some f ∧ ArgEnds flows nI xIx fIx iIx f.e):ArgEnds flows nI xIx fIx iIx e:=by
 cases hf:fIx e.nm with
 | none =>
  refine ⟨1,fun way ops => ?_⟩
  rw [argGo]
  by_cases hl:20 < ops.length
  ·rw [if_pos hl];exact Option.some_ne_none _
  ·rw [if_neg hl,if_neg oq,if_neg oq,hf];exact Option.some_ne_none _
 | some j =>
  obtain ⟨f,hfj,N,hN⟩:=h j hf
  refine ⟨N + 1,fun way ops => ?_⟩
  rw [argGo]
  by_cases hl:20 < ops.length
  ·rw [if_pos hl];exact Option.some_ne_none _
  ·rw [if_neg hl,if_neg oq,if_neg oq,hf]
   simp only [hfj]
   exact hN _ _
theorem at_zero:∀ {l:PL},l.len = 1 → ∃ k nm n d args a,l = .cons k nm n d args a .nil
 | .cons k nm n d args a .nil,_ => ⟨k,nm,n,d,args,a,rfl⟩
 | .cons _ _ _ _ _ _ (.cons _ _ _ _ _ _ _),h => by simp only [PL.len] at h;omega
 | .nil,h => by simp only [PL.len] at h;omega
theorem ends_told {env:Env} (hE:∀ nm,env nm ≠ none → ∀ j,fIx nm = some j → ∃ f,flows[j]? = some f ∧ ArgEnds flows nI xIx fIx iIx f.e) :
  ∀ (M:Nat) (e:PE),e.args.sz < M → exprOK e = true → ∀ p q,tellE env e = .ok p q → ArgEnds flows nI xIx fIx iIx e:=by
 intro M
 induction M with
 | zero => intro e h;omega
 | succ M ih =>
  intro e hM hex p q ht
  by_cases h2:e.k = 2
  ·exact argEnds_call h2
  ·by_cases h1:e.k = 1
   ·refine argEnds_name h1 (hE e.nm ?_)
    intro h0
    unfold tellE tell1 at ht
    rw [if_pos h1,h0] at ht
    cases ht
   ·obtain ⟨k,nm,n,d,args,a,hargs⟩:=at_zero ((ex_call hex).2.2 h1 h2)
    have hc:e.args.at 0 = some ⟨k,nm,n,d,args,a⟩:=by rw [hargs];rfl
    have ht':∃ p q,tellE env ⟨k,nm,n,d,args,a⟩ = .ok p q:=by
     unfold tellE at ht
     unfold tell1 at ht
     rw [if_neg h1,hargs] at ht
     unfold tellE
     simp only [tellL] at ht
     cases h3:tell1 env k nm n d a (tellL env args) with
     | ok p1 q1 => exact ⟨p1,q1,rfl⟩
     | unk => rw [h3] at ht;cases ht
     | bad a1 e1 => rw [h3] at ht;cases ht
    obtain ⟨p',q',ht'⟩:=ht'
    refine argEnds_op h2 h1 hc (ih _ ?_ (ex_child hex hc) p' q' ht')
    have:=(at_lt _ _ _ hc).2
    omega
theorem ends_found {env0 env:Env} (hg:GrE env0 flows env) (h0:∀ nm,env0 nm ≠ none → fIx nm = none) (hx:∀ f ∈ flows,exprOK f.e = true) (hu:∀ i j (hi:i < flows.length) (hj:j < flows.length),flows[i].nm = flows[j].nm → i = j)
  (hF:∀ nm j,fIx nm = some j → ∃ h:j < flows.length,flows[j].nm = nm):∀ nm,env nm ≠ none → ∀ j,fIx nm = some j → ∃ f,flows[j]? = some f ∧ ArgEnds flows nI xIx fIx iIx f.e:=by
 induction hg with
 | base => intro nm hn j hj;rw [h0 nm hn] at hj;cases hj
 | step hg hf hnone ht ih =>
  rename_i env1 f p q
  intro nm hn j hj
  obtain ⟨hjl,hjn⟩:=hF nm j hj
  by_cases hnm:nm = f.nm
  ·obtain ⟨i,hi,hfi⟩:=List.getElem_of_mem hf
   obtain rfl:i = j:=hu i j hi hjl (by rw [hfi,hjn,hnm])
   exact ⟨f,by rw [List.getElem?_eq_getElem hjl,hfi],ends_told ih _ f.e (Nat.lt_succ_self _) (hx f hf) p q ht⟩
  ·refine ih nm (fun h => hn ?_) j hj
   unfold upd
   rw [if_neg hnm]
   exact h
theorem ends_all (hE:∀ nm j,fIx nm = some j → ∃ f,flows[j]? = some f ∧ ArgEnds flows nI xIx fIx iIx f.e):∀ (M:Nat) (e:PE),e.args.sz < M → exprOK e = true → ArgEnds flows nI xIx fIx iIx e:=by
 intro M
 induction M with
 | zero => intro e h;omega
 | succ M ih =>
  intro e hM hex
  by_cases h2:e.k = 2
  ·exact argEnds_call h2
  ·by_cases h1:e.k = 1
   ·exact argEnds_name h1 (hE e.nm)
   ·obtain ⟨k,nm,n,d,args,a,hargs⟩:=at_zero ((ex_call hex).2.2 h1 h2)
    have hc:e.args.at 0 = some ⟨k,nm,n,d,args,a⟩:=by rw [hargs];rfl
    refine argEnds_op h2 h1 hc (ih _ ?_ (ex_child hex hc))
    have:=(at_lt _ _ _ hc).2
    omega
end
end Go.Proofs.YtpjficjlfibibaaGreatDoor.syn
