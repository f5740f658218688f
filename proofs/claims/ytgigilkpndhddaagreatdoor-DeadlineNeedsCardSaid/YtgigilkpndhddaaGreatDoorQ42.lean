/-
  Parts of the proof: Flt17.
-/
import Derived.Test.YtgigilkpndhddaaGreatDoorQ34
import Derived.Test.YtgigilkpndhddaaGreatDoorQ41
namespace Go.Proofs.YtgigilkpndhddaaGreatDoor.syn
set_option linter.unusedVariables false
set_option linter.unusedSimpArgs false
set_option linter.unnecessarySimpa false
set_option maxRecDepth 100000
set_option maxHeartbeats 16000000
open Go.RowKit Go.Shelf
def Sty (e:TypeId) (X Y:World):Prop:=∀(k:Nat) (o:Obj),X.heap[k]?=some o→(∀cur fz,o≠.cells cur e fz)→Y.heap[k]?=some o
theorem Sty.stays {e:TypeId} {X Y:World} (h:Sty e X Y):YM e X Y:=fun k cur t fz hk ht=>h k _ hk (fun cur' fz' he=>by injection he with h1 h2 h3;exact ht h2)
theorem Sty.of_below {e:TypeId} {X Y:World} (hb:Below X.heap.size X Y):Sty e X Y:=fun k o hk _=>(hb.block k (Zb hk)).trans hk
theorem Sty.trans {e:TypeId} {X Y Z:World} (h:Sty e X Y) (g:Sty e Y Z):Sty e X Z:=fun k o hk ho=>g k o (h k o hk ho) ho
theorem JO {wr w6 w4:World} {base:Nat} {e:TypeId} {size n:Nat} {v:Value} {xs:List Value} {ob:Obj} (hown:wr.ownsRow base e size v n xs) (hb:Below wr.heap.size wr w6) (hg:(w6.alloc ob).grownBy w4 v.ownBlock) :
  Sty e wr w4∧Sty e w6 w4∧(∀B,B≤base→B≤wr.heap.size→Below B wr w4)∧wr.heap.size≤w4.heap.size:=by
 obtain⟨_,h2,h3⟩:=Uh hown hb hg
 have key:Sty e w6 w4:=fun k o hk ho=>by
  have h6:(w6.alloc ob).heap[k]?=some o:=(Za _ _ _ (Zb hk)).trans hk
  refine(hg.block k (Zb h6) (fun he=>?_)).trans h6
  have ho6:=own_below hown hb
  rcases ho6.2 with ⟨rfl,_⟩|⟨g,cap,cur',rfl,hbg,hgg,_⟩
  ·cases he
  simp[Value.ownBlock] at he
  subst he
  rw[hk] at hgg
  injection hgg with hgg
  exact ho _ _ hgg
 exact⟨(Sty.of_below hb).trans key,key,h2,h3⟩
structure FtI (w:World) (m bs B:Nat) (Ds:List Nat) (vI vN vT vL:Value) (I:List (Int × Int)) (Nn:List ND) (T:List TK) (L:List TL) (X:World):Prop where
 low:Below w.heap.size w X
 hbs:w.heap.size+3≤bs
 size:bs≤B
 bsize:B≤X.heap.size
 b0:Boxed X w.heap.size 123 (.pointer (some ⟨m,0,none⟩))
 b1:X.heap[w.heap.size+1]?=some (.cells #[.slice none 0 0,.slice none 0 0,.slice none 0 0,.slice none 0 0] 34 (0,0))
 b2:X.heap[w.heap.size+1+1]?=some (.cells #[vI,vN,vT,vL] 34 (0,0))
 rI:Y6 xi 62 2 X bs vI I
 rN:Y6 Ui 90 10 X bs vN Nn
 rT:Y6 (QI bs) 65 4 X bs vT T
 rL:Y6 (QS bs) 71 5 X bs vL L
 marks:Mks w.heap.size Ds X
 under:∀D∈Ds,D<B
section
variable {w:World} {m bs B:Nat} {Ds:List Nat} {vI vN vT vL:Value} {I:List (Int × Int)} {Nn:List ND} {T:List TK} {L:List TL} {X Y:World}
theorem Mks.sty {n₀:Nat} {e:TypeId} (h:Mks n₀ Ds X) (hs:Sty e X Y):Mks n₀ Ds Y :=
 ⟨fun D hD=>⟨(h.1 D hD).1,hs D _ (h.1 D hD).2 (fun _ _ he=>by cases he)⟩,h.2⟩
theorem Sty.cells {e t:TypeId} (hs:Sty e X Y) {k:Nat} {cs:Array Value} {fz:Nat × Nat} (h:X.heap[k]?=some (.cells cs t fz)) (hne:t≠e):Y.heap[k]?=some (.cells cs t fz):=hs.stays k cs t fz h hne
theorem FtI.over (h:FtI w m bs B Ds vI vN vT vL I Nn T L X) (hs:Sty 4 X Y) (hlow:Below w.heap.size w Y) (hsz:X.heap.size≤Y.heap.size):FtI w m bs B Ds vI vN vT vL I Nn T L Y :=
 ⟨hlow,h.hbs,h.size,Zm h.bsize hsz,hs.cells h.b0 (by decide),hs.cells h.b1 (by decide),hs.cells h.b2 (by decide),h.rI.stays hs.stays (by decide) (fun c x hc=>hc),h.rN.stays hs.stays (by decide) (fun c x hc=>hc.stays hs.stays (by decide) (by decide)),
  h.rT.stays hs.stays (by decide) (fun c x hc=>hc.stays hs.stays (by decide) (by decide)),h.rL.stays hs.stays (by decide) (fun c x hc=>hc.stays hs.stays (by decide)),h.marks.sty hs,h.under⟩
theorem FtI.keep (h:FtI w m bs B Ds vI vN vT vL I Nn T L X) (hb:Below X.heap.size X Y):FtI w m bs B Ds vI vN vT vL I Nn T L Y :=
 h.over (Sty.of_below hb) (h.low.trans (hb.mono h.low.size)) hb.size
theorem FtI.more (h:FtI w m bs B Ds vI vN vT vL I Nn T L X) {B':Nat} (h1:B≤B') (h2:B'≤X.heap.size):FtI w m bs B' Ds vI vN vT vL I Nn T L X :=
 ⟨h.low,h.hbs,Zm h.size h1,h2,h.b0,h.b1,h.b2,h.rI,h.rN,h.rT,h.rL,h.marks,fun D hD=>Zd (h.under D hD) h1⟩
theorem FtI.own {row:Option Nat} (h:FtI w m bs B Ds vI vN vT vL I Nn T L X) (hg:X.grownBy Y row) (hr:∀r,row=some r→B≤r∧∃o:Obj,X.heap[r]?=some o∧o.isCells=false):FtI w m bs B Ds vI vN vT vL I Nn T L Y:=by
 have hb:=QD hg hr h.bsize
 have h1:=h.hbs
 have h2:=h.size
 have key:∀(k:Nat) (cur:Array Value) (t:TypeId) (fz:Nat × Nat),X.heap[k]?=some (.cells cur t fz)→Y.heap[k]?=some (.cells cur t fz):=fun k cur t fz hk=>by
  refine(hg.block k (Zb hk) (fun e=>?_)).trans hk
  obtain⟨_,o,ho,hc⟩:=hr k e.symm
  rw[hk] at ho;cases ho;cases hc
 have hs:YM 4 X Y:=fun k cur t fz hk _=>key k cur t fz hk
 exact⟨h.low.trans (hb.mono oq),h1,h2,Zm h.bsize hb.size,key _ _ _ _ h.b0,key _ _ _ _ h.b1,key _ _ _ _ h.b2,h.rI.stays hs (by decide) (fun c x hc=>hc),h.rN.stays hs (by decide) (fun c x hc=>hc.stays hs (by decide) (by decide)),
  h.rT.stays hs (by decide) (fun c x hc=>hc.stays hs (by decide) (by decide)),h.rL.stays hs (by decide) (fun c x hc=>hc.stays hs (by decide)),
  ⟨fun D hD=>⟨(h.marks.1 D hD).1,(hb.block D (h.under D hD)).trans (h.marks.1 D hD).2⟩,h.marks.2⟩,h.under⟩
theorem FtI.mark (h:FtI w m bs B Ds vI vN vT vL I Nn T L X) {D:Nat} (h1:B≤D) (h2:X.heap[D]?=some (.deferred (some []))):FtI w m bs X.heap.size (D::Ds) vI vN vT vL I Nn T L X:=by
 have hs:=h.size
 have hh:=h.hbs
 refine⟨h.low,hh,Zm h.size h.bsize,Zc _,h.b0,h.b1,h.b2,h.rI,h.rN,h.rT,h.rL,⟨fun D' hD'=>?_,List.nodup_cons.2 ⟨fun hm=>?_,h.marks.2⟩⟩,fun D' hD'=>?_⟩
 ·rcases ZR.1 hD' with rfl|hm
  ·exact⟨oq,h2⟩
  exact h.marks.1 D' hm
 ·have:=h.under D hm
  omega
 rcases ZR.1 hD' with rfl|hm
 ·exact Zb h2
 have:=h.under D' hm
 have:=h.bsize
 omega
theorem jX {w:World} {b:Nat} {v0 v1 v2 v3:Value} {t:TypeId} (h:w.heap[b]?=some (.cells #[v0,v1,v2,v3] t (0,0))) (u:Value) :
  (w.setCell ⟨b,0,none⟩ u).heap[b]?=some (.cells #[u,v1,v2,v3] t (0,0))∧(w.setCell ⟨b,1,none⟩ u).heap[b]?=some (.cells #[v0,u,v2,v3] t (0,0))∧(w.setCell ⟨b,2,none⟩ u).heap[b]?=some (.cells #[v0,v1,u,v3] t (0,0))∧(w.setCell ⟨b,3,none⟩ u).heap[b]?=some (.cells #[v0,v1,v2,u] t (0,0)):=by
 have h0:=Zj _ b 0 _ t u h
 have h1:=Zj _ b 1 _ t u h
 have h2:=Zj _ b 2 _ t u h
 have h3:=Zj _ b 3 _ t u h
 refine⟨?_,?_,?_,?_⟩
 ·simpa only [sA,sB,sC] using h0
 ·simpa only [sA,sB,sC] using h1
 ·simpa only [sA,sB,sC] using h2
 simpa only [sA,sB,sC] using h3
theorem Kw {e:TypeId} {w:World} {b o:Nat} {cur:Array Value} {fz:Nat × Nat} (h:w.heap[b]?=some (.cells cur e fz)) (u:Value):Sty e w (w.setCell ⟨b,o,none⟩ u):=fun k ob hk ho=>by
 refine(Zr _ _ _ _ (fun he=>?_)).trans hk
 have he:k=b:=he
 subst he
 rw[h] at hk
 injection hk with hk
 exact ho _ _ hk.symm
theorem FtI.appI (h:FtI w m bs B Ds vI vN vT vL I Nn T L X) {w6 w4:World} (hb6:Below X.heap.size X w6) {cs:List (List Value)} {n:Nat} (hn:I.length=n) (r1:cs.length=I.length) (r2:X.ownsRow bs 62 2 vI n cs.flatten) (r3:∀c∈cs,c.length=2)
  (r4:∀j (hj:j<I.length) (hj':j<cs.length),xi X cs[j] I[j]) {c:List Value} (hcl:c.length=2) {x:Int × Int} (hx:xi w6 c x) {ob:Obj} {v':Value} (hown4:w4.ownsRow bs 62 2 v' (n+1) (cs.flatten++c)) (hg4:(w6.alloc ob).grownBy w4 vI.ownBlock) :
  (w4.cell? ⟨w.heap.size+1+1,0,none⟩=some vI∧w4.frozen? ⟨w.heap.size+1+1,0,none⟩=false)∧FtI w m bs B Ds v' vN vT vL (I++[x]) Nn T L (w4.setCell ⟨w.heap.size+1+1,0,none⟩ v')∧Sty 62 X w4∧Below w.heap.size X w4:=by
 subst hn
 obtain⟨hs,hs6,hbe,hsz⟩:=JO r2 hb6 hg4
 have h1:=h.hbs
 have h2:=h.size
 have h3:=h.bsize
 have hlw:=h.low.size
 have hx':xi w4 c x:=hx
 have hb2:=hs.cells h.b2 (by decide)
 have hset:Sty 34 w4 (w4.setCell ⟨w.heap.size+1+1,0,none⟩ v'):=Kw hb2 v'
 have hoth:∀k,k≠w.heap.size+1+1→(w4.setCell ⟨w.heap.size+1+1,0,none⟩ v').heap[k]?=w4.heap[k]?:=fun k hk=>Zr _ _ _ _ (fun e=>hk e)
 have hb4:Below w.heap.size X w4:=hbe _ oq hlw
 refine⟨⟨by simp[World.cell?,hb2],by simp[World.frozen?,hb2]⟩,⟨(h.low.trans hb4).setCell (p:=⟨w.heap.size+1+1,0,none⟩) (by show w.heap.size≤w.heap.size+1+1;omega) _,h1,h2,?_,?_,?_,(jX hb2 v').1,?_,?_,?_,?_,?_,h.under⟩,hs,hb4⟩
 ·have:=((Zg 0 w4).setCell (p:=⟨w.heap.size+1+1,0,none⟩) (Zk _) v').size
  omega
 ·exact(hoth _ oq).trans (hs.cells h.b0 (by decide))
 ·exact(hoth _ oq).trans (hs.cells h.b1 (by decide))
 ·exact(Jb (w4:=w4) (Pe:=xi) r1 r2 r3 r4 (fun c x hc=>hc) hcl hx' hown4).stays hset.stays (by decide) (fun c x hc=>hc)
 ·exact(h.rN.stays hs.stays (by decide) (fun c x hc=>hc.stays hs.stays (by decide) (by decide))).stays hset.stays (by decide) (fun c x hc=>hc.stays hset.stays (by decide) (by decide))
 ·exact(h.rT.stays hs.stays (by decide) (fun c x hc=>hc.stays hs.stays (by decide) (by decide))).stays hset.stays (by decide) (fun c x hc=>hc.stays hset.stays (by decide) (by decide))
 ·exact(h.rL.stays hs.stays (by decide) (fun c x hc=>hc.stays hs.stays (by decide))).stays hset.stays (by decide) (fun c x hc=>hc.stays hset.stays (by decide))
 exact(h.marks.sty hs).sty hset
theorem FtI.appN (h:FtI w m bs B Ds vI vN vT vL I Nn T L X) {w6 w4:World} (hb6:Below X.heap.size X w6) {cs:List (List Value)} {n:Nat} (hn:Nn.length=n) (r1:cs.length=Nn.length) (r2:X.ownsRow bs 90 10 vN n cs.flatten) (r3:∀c∈cs,c.length=10)
  (r4:∀j (hj:j<Nn.length) (hj':j<cs.length),Ui X cs[j] Nn[j]) {c:List Value} (hcl:c.length=10) {x:ND} (hx:Ui w6 c x) {ob:Obj} {v':Value} (hown4:w4.ownsRow bs 90 10 v' (n+1) (cs.flatten++c)) (hg4:(w6.alloc ob).grownBy w4 vN.ownBlock) :
  (w4.cell? ⟨w.heap.size+1+1,1,none⟩=some vN∧w4.frozen? ⟨w.heap.size+1+1,1,none⟩=false)∧FtI w m bs B Ds vI v' vT vL I (Nn++[x]) T L (w4.setCell ⟨w.heap.size+1+1,1,none⟩ v')∧Sty 90 X w4∧Below w.heap.size X w4:=by
 subst hn
 obtain⟨hs,hs6,hbe,hsz⟩:=JO r2 hb6 hg4
 have h1:=h.hbs
 have h2:=h.size
 have h3:=h.bsize
 have hlw:=h.low.size
 have hx':Ui w4 c x:=hx.stays hs6.stays (by decide) (by decide)
 have hb2:=hs.cells h.b2 (by decide)
 have hset:Sty 34 w4 (w4.setCell ⟨w.heap.size+1+1,1,none⟩ v'):=Kw hb2 v'
 have hoth:∀k,k≠w.heap.size+1+1→(w4.setCell ⟨w.heap.size+1+1,1,none⟩ v').heap[k]?=w4.heap[k]?:=fun k hk=>Zr _ _ _ _ (fun e=>hk e)
 have hb4:Below w.heap.size X w4:=hbe _ oq hlw
 refine⟨⟨by simp[World.cell?,hb2],by simp[World.frozen?,hb2]⟩,⟨(h.low.trans hb4).setCell (p:=⟨w.heap.size+1+1,1,none⟩) (by show w.heap.size≤w.heap.size+1+1;omega) _,h1,h2,?_,?_,?_,(jX hb2 v').2.1,?_,?_,?_,?_,?_,h.under⟩,hs,hb4⟩
 ·have:=((Zg 0 w4).setCell (p:=⟨w.heap.size+1+1,1,none⟩) (Zk _) v').size
  omega
 ·exact(hoth _ oq).trans (hs.cells h.b0 (by decide))
 ·exact(hoth _ oq).trans (hs.cells h.b1 (by decide))
 ·exact(h.rI.stays hs.stays (by decide) (fun c x hc=>hc)).stays hset.stays (by decide) (fun c x hc=>hc)
 ·exact(Jb (w4:=w4) (Pe:=Ui) r1 r2 r3 r4 (fun c x hc=>hc.stays hs.stays (by decide) (by decide)) hcl hx' hown4).stays hset.stays (by decide) (fun c x hc=>hc.stays hset.stays (by decide) (by decide))
 ·exact(h.rT.stays hs.stays (by decide) (fun c x hc=>hc.stays hs.stays (by decide) (by decide))).stays hset.stays (by decide) (fun c x hc=>hc.stays hset.stays (by decide) (by decide))
 ·exact(h.rL.stays hs.stays (by decide) (fun c x hc=>hc.stays hs.stays (by decide))).stays hset.stays (by decide) (fun c x hc=>hc.stays hset.stays (by decide))
 exact(h.marks.sty hs).sty hset
theorem FtI.appT (h:FtI w m bs B Ds vI vN vT vL I Nn T L X) {w6 w4:World} (hb6:Below X.heap.size X w6) {cs:List (List Value)} {n:Nat} (hn:T.length=n) (r1:cs.length=T.length) (r2:X.ownsRow bs 65 4 vT n cs.flatten) (r3:∀c∈cs,c.length=4)
  (r4:∀j (hj:j<T.length) (hj':j<cs.length),(QI bs) X cs[j] T[j]) {c:List Value} (hcl:c.length=4) {x:TK} (hx:QI bs w6 c x) {ob:Obj} {v':Value} (hown4:w4.ownsRow bs 65 4 v' (n+1) (cs.flatten++c)) (hg4:(w6.alloc ob).grownBy w4 vT.ownBlock) :
  (w4.cell? ⟨w.heap.size+1+1,2,none⟩=some vT∧w4.frozen? ⟨w.heap.size+1+1,2,none⟩=false)∧FtI w m bs B Ds vI vN v' vL I Nn (T++[x]) L (w4.setCell ⟨w.heap.size+1+1,2,none⟩ v')∧Sty 65 X w4∧Below w.heap.size X w4:=by
 subst hn
 obtain⟨hs,hs6,hbe,hsz⟩:=JO r2 hb6 hg4
 have h1:=h.hbs
 have h2:=h.size
 have h3:=h.bsize
 have hlw:=h.low.size
 have hx':(QI bs) w4 c x:=hx.stays hs6.stays (by decide) (by decide)
 have hb2:=hs.cells h.b2 (by decide)
 have hset:Sty 34 w4 (w4.setCell ⟨w.heap.size+1+1,2,none⟩ v'):=Kw hb2 v'
 have hoth:∀k,k≠w.heap.size+1+1→(w4.setCell ⟨w.heap.size+1+1,2,none⟩ v').heap[k]?=w4.heap[k]?:=fun k hk=>Zr _ _ _ _ (fun e=>hk e)
 have hb4:Below w.heap.size X w4:=hbe _ oq hlw
 refine⟨⟨by simp[World.cell?,hb2],by simp[World.frozen?,hb2]⟩,⟨(h.low.trans hb4).setCell (p:=⟨w.heap.size+1+1,2,none⟩) (by show w.heap.size≤w.heap.size+1+1;omega) _,h1,h2,?_,?_,?_,(jX hb2 v').2.2.1,?_,?_,?_,?_,?_,h.under⟩,hs,hb4⟩
 ·have:=((Zg 0 w4).setCell (p:=⟨w.heap.size+1+1,2,none⟩) (Zk _) v').size
  omega
 ·exact(hoth _ oq).trans (hs.cells h.b0 (by decide))
 ·exact(hoth _ oq).trans (hs.cells h.b1 (by decide))
 ·exact(h.rI.stays hs.stays (by decide) (fun c x hc=>hc)).stays hset.stays (by decide) (fun c x hc=>hc)
 ·exact(h.rN.stays hs.stays (by decide) (fun c x hc=>hc.stays hs.stays (by decide) (by decide))).stays hset.stays (by decide) (fun c x hc=>hc.stays hset.stays (by decide) (by decide))
 ·exact(Jb (w4:=w4) (Pe:=(QI bs)) r1 r2 r3 r4 (fun c x hc=>hc.stays hs.stays (by decide) (by decide)) hcl hx' hown4).stays hset.stays (by decide) (fun c x hc=>hc.stays hset.stays (by decide) (by decide))
 ·exact(h.rL.stays hs.stays (by decide) (fun c x hc=>hc.stays hs.stays (by decide))).stays hset.stays (by decide) (fun c x hc=>hc.stays hset.stays (by decide))
 exact(h.marks.sty hs).sty hset
theorem FtI.appL (h:FtI w m bs B Ds vI vN vT vL I Nn T L X) {w6 w4:World} (hb6:Below X.heap.size X w6) {cs:List (List Value)} {n:Nat} (hn:L.length=n) (r1:cs.length=L.length) (r2:X.ownsRow bs 71 5 vL n cs.flatten) (r3:∀c∈cs,c.length=5)
  (r4:∀j (hj:j<L.length) (hj':j<cs.length),(QS bs) X cs[j] L[j]) {c:List Value} (hcl:c.length=5) {x:TL} (hx:QS bs w6 c x) {ob:Obj} {v':Value} (hown4:w4.ownsRow bs 71 5 v' (n+1) (cs.flatten++c)) (hg4:(w6.alloc ob).grownBy w4 vL.ownBlock) :
  (w4.cell? ⟨w.heap.size+1+1,3,none⟩=some vL∧w4.frozen? ⟨w.heap.size+1+1,3,none⟩=false)∧FtI w m bs B Ds vI vN vT v' I Nn T (L++[x]) (w4.setCell ⟨w.heap.size+1+1,3,none⟩ v')∧Sty 71 X w4∧Below w.heap.size X w4:=by
 subst hn
 obtain⟨hs,hs6,hbe,hsz⟩:=JO r2 hb6 hg4
 have h1:=h.hbs
 have h2:=h.size
 have h3:=h.bsize
 have hlw:=h.low.size
 have hx':(QS bs) w4 c x:=hx.stays hs6.stays (by decide)
 have hb2:=hs.cells h.b2 (by decide)
 have hset:Sty 34 w4 (w4.setCell ⟨w.heap.size+1+1,3,none⟩ v'):=Kw hb2 v'
 have hoth:∀k,k≠w.heap.size+1+1→(w4.setCell ⟨w.heap.size+1+1,3,none⟩ v').heap[k]?=w4.heap[k]?:=fun k hk=>Zr _ _ _ _ (fun e=>hk e)
 have hb4:Below w.heap.size X w4:=hbe _ oq hlw
 refine⟨⟨by simp[World.cell?,hb2],by simp[World.frozen?,hb2]⟩,⟨(h.low.trans hb4).setCell (p:=⟨w.heap.size+1+1,3,none⟩) (by show w.heap.size≤w.heap.size+1+1;omega) _,h1,h2,?_,?_,?_,(jX hb2 v').2.2.2,?_,?_,?_,?_,?_,h.under⟩,hs,hb4⟩
 ·have:=((Zg 0 w4).setCell (p:=⟨w.heap.size+1+1,3,none⟩) (Zk _) v').size
  omega
 ·exact(hoth _ oq).trans (hs.cells h.b0 (by decide))
 ·exact(hoth _ oq).trans (hs.cells h.b1 (by decide))
 ·exact(h.rI.stays hs.stays (by decide) (fun c x hc=>hc)).stays hset.stays (by decide) (fun c x hc=>hc)
 ·exact(h.rN.stays hs.stays (by decide) (fun c x hc=>hc.stays hs.stays (by decide) (by decide))).stays hset.stays (by decide) (fun c x hc=>hc.stays hset.stays (by decide) (by decide))
 ·exact(h.rT.stays hs.stays (by decide) (fun c x hc=>hc.stays hs.stays (by decide) (by decide))).stays hset.stays (by decide) (fun c x hc=>hc.stays hset.stays (by decide) (by decide))
 ·exact(Jb (w4:=w4) (Pe:=(QS bs)) r1 r2 r3 r4 (fun c x hc=>hc.stays hs.stays (by decide)) hcl hx' hown4).stays hset.stays (by decide) (fun c x hc=>hc.stays hset.stays (by decide))
 exact(h.marks.sty hs).sty hset
end
def flE (p:PG) (j:Nat):PE:=match p.flows[j]? with
 | some f=>f.e
 | none=>⟨0,ByteArray.empty,0,0,.nil,0⟩
noncomputable def tkR (p:PG) (xIx fIx iIx nIx:IE) (env:Env) (s:PE × ByteArray):TK :=
 ⟨(((nIx s.1.nm).getD 0:Nat):Int),(Kf (Qj env) s.1).1,(Kf (Qj env) s.1).2,(Qh s.1.args s.2 0).map (fun k=>((Vl p xIx fIx iIx k.1 k.2).1,(Vl p xIx fIx iIx k.1 k.2).2.reverse))⟩
noncomputable def tlR (p:PG) (xIx fIx iIx:IE) (env:Env) (o:OU):TL :=
 ⟨(Qj env o.fl).1,(Qj env o.fl).2,(Vl p xIx fIx iIx (flE p ((fIx o.fl).getD 0)) (dg ((fIx o.fl).getD 0))).1,(Vl p xIx fIx iIx (flE p ((fIx o.fl).getD 0)) (dg ((fIx o.fl).getD 0))).2.reverse,o.dl⟩
end Go.Proofs.YtgigilkpndhddaaGreatDoor.syn
