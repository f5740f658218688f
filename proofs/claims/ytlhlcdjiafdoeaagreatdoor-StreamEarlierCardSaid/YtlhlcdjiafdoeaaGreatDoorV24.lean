/- Parts of the proof. -/
import Derived.Test.YtlhlcdjiafdoeaaGreatDoorV22
import Derived.Test.YtlhlcdjiafdoeaaGreatDoorV23
set_option linter.all false
set_option maxRecDepth 100000
set_option maxHeartbeats 16000000
namespace Go.Proofs.YtlhlcdjiafdoeaaGreatDoor.syn
open Go.RowKit Go.Shelf
def Sty (e:TypeId) (X Y:World):Prop:=∀(k:Nat) (o:Obj),X.heap[k]?=some o→(∀cur fz,o≠.cells cur e fz)→Y.heap[k]?=some o
theorem Sty.stays {e:TypeId} {X Y:World} (h:Sty e X Y):YO e X Y:=fun k cur t fz hk ht=>h k _ hk (fun cur' fz' he=>by injection he with h1 h2 h3;exact ht h2)
theorem Sty.of_below {e:TypeId} {X Y:World} (hb:Below X.heap.size X Y):Sty e X Y:=fun k o hk _=>(hb.block k (Zb hk)).trans hk
theorem Sty.trans {e:TypeId} {X Y Z:World} (h:Sty e X Y) (g:Sty e Y Z):Sty e X Z:=fun k o hk ho=>g k o (h k o hk ho) ho
theorem Jr {wr w6 w4:World} {base:Nat} {e:TypeId} {size n:Nat} {v:Value} {xs:List Value} {ob:Obj} (hown:wr.ownsRow base e size v n xs) (hb:Below wr.heap.size wr w6) (hg:(w6.alloc ob).grownBy w4 v.ownBlock) :
  Sty e wr w4∧Sty e w6 w4∧(∀B,B≤base→B≤wr.heap.size→Below B wr w4)∧wr.heap.size≤w4.heap.size:=by
 obtain⟨_,h2,h3⟩:=VQ hown hb hg
 have key:Sty e w6 w4:=fun k o hk ho=>by
  have h6:(w6.alloc ob).heap[k]?=some o:=(Za _ _ _ (Zb hk)).trans hk
  refine(hg.block k (Zb h6) (fun he=>?_)).trans h6
  have ho6:=own_below hown hb
  rcases ho6.2 with ⟨rfl,_⟩|⟨g,cap,cur',rfl,hbg,hgg,_⟩
  ·cases he
  simp[Value.ownBlock] at he
  subst he
  rw[hk] at hgg
  injection hgg with hgg
  exact ho _ _ hgg
 exact⟨(Sty.of_below hb).trans key,key,h2,h3⟩
structure FtI (w:World) (m bs B:Nat) (Ds:List Nat) (vI vN vT vL:Value) (I:List (Int × Int)) (Nn:List ND) (T:List TK) (L:List TL) (X:World):Prop where
 low:Below w.heap.size w X
 hbs:w.heap.size+3≤bs
 size:bs≤B
 bsize:B≤X.heap.size
 b0:Boxed X w.heap.size 116 (.pointer (some ⟨m,0,none⟩))
 b1:X.heap[w.heap.size+1]?=some (.cells #[.slice none 0 0,.slice none 0 0,.slice none 0 0,.slice none 0 0] 35 (0,0))
 b2:X.heap[w.heap.size+1+1]?=some (.cells #[vI,vN,vT,vL] 35 (0,0))
 rI:Y1 zr 50 2 X bs vI I
 rN:Y1 Vp 94 10 X bs vN Nn
 rT:Y1 (Qw bs) 53 4 X bs vT T
 rL:Y1 (QH bs) 77 5 X bs vL L
 marks:Mks w.heap.size Ds X
 under:∀D∈Ds,D<B
section
variable {w:World} {m bs B:Nat} {Ds:List Nat} {vI vN vT vL:Value} {I:List (Int × Int)} {Nn:List ND} {T:List TK} {L:List TL} {X Y:World}
theorem Mks.sty {n₀:Nat} {e:TypeId} (h:Mks n₀ Ds X) (hs:Sty e X Y):Mks n₀ Ds Y :=
 ⟨fun D hD=>⟨(h.1 D hD).1,hs D _ (h.1 D hD).2 (fun _ _ he=>by cases he)⟩,h.2⟩
theorem Sty.cells {e t:TypeId} (hs:Sty e X Y) {k:Nat} {cs:Array Value} {fz:Nat × Nat} (h:X.heap[k]?=some (.cells cs t fz)) (hne:t≠e):Y.heap[k]?=some (.cells cs t fz):=hs.stays k cs t fz h hne
theorem FtI.over (h:FtI w m bs B Ds vI vN vT vL I Nn T L X) (hs:Sty 4 X Y) (hlow:Below w.heap.size w Y) (hsz:X.heap.size≤Y.heap.size):FtI w m bs B Ds vI vN vT vL I Nn T L Y :=
 ⟨hlow,h.hbs,h.size,Zm h.bsize hsz,hs.cells h.b0 (by decide),hs.cells h.b1 (by decide),hs.cells h.b2 (by decide),h.rI.stays hs.stays (by decide) (fun c x hc=>hc),h.rN.stays hs.stays (by decide) (fun c x hc=>hc.stays hs.stays (by decide) (by decide)),
  h.rT.stays hs.stays (by decide) (fun c x hc=>hc.stays hs.stays (by decide) (by decide)),h.rL.stays hs.stays (by decide) (fun c x hc=>hc.stays hs.stays (by decide)),h.marks.sty hs,h.under⟩
theorem FtI.keep (h:FtI w m bs B Ds vI vN vT vL I Nn T L X) (hb:Below X.heap.size X Y):FtI w m bs B Ds vI vN vT vL I Nn T L Y :=
 h.over (Sty.of_below hb) (h.low.trans (hb.mono h.low.size)) hb.size
theorem FtI.more (h:FtI w m bs B Ds vI vN vT vL I Nn T L X) {B':Nat} (h1:B≤B') (h2:B'≤X.heap.size):FtI w m bs B' Ds vI vN vT vL I Nn T L X :=
 ⟨h.low,h.hbs,Zm h.size h1,h2,h.b0,h.b1,h.b2,h.rI,h.rN,h.rT,h.rL,h.marks,fun D hD=>Zd (h.under D hD) h1⟩
theorem FtI.own {row:Option Nat} (h:FtI w m bs B Ds vI vN vT vL I Nn T L X) (hg:X.grownBy Y row) (hr:∀r,row=some r→B≤r∧∃o:Obj,X.heap[r]?=some o∧o.isCells=false):FtI w m bs B Ds vI vN vT vL I Nn T L Y:=by
 have hb:=QB hg hr h.bsize
 have h1:=h.hbs
 have h2:=h.size
 have key:∀(k:Nat) (cur:Array Value) (t:TypeId) (fz:Nat × Nat),X.heap[k]?=some (.cells cur t fz)→Y.heap[k]?=some (.cells cur t fz):=fun k cur t fz hk=>by
  refine(hg.block k (Zb hk) (fun e=>?_)).trans hk
  obtain⟨_,o,ho,hc⟩:=hr k e.symm
  rw[hk] at ho;cases ho;cases hc
 have hs:YO 4 X Y:=fun k cur t fz hk _=>key k cur t fz hk
 exact⟨h.low.trans (hb.mono oq),h1,h2,Zm h.bsize hb.size,key _ _ _ _ h.b0,key _ _ _ _ h.b1,key _ _ _ _ h.b2,h.rI.stays hs (by decide) (fun c x hc=>hc),h.rN.stays hs (by decide) (fun c x hc=>hc.stays hs (by decide) (by decide)),
  h.rT.stays hs (by decide) (fun c x hc=>hc.stays hs (by decide) (by decide)),h.rL.stays hs (by decide) (fun c x hc=>hc.stays hs (by decide)),
  ⟨fun D hD=>⟨(h.marks.1 D hD).1,(hb.block D (h.under D hD)).trans (h.marks.1 D hD).2⟩,h.marks.2⟩,h.under⟩
theorem FtI.mark (h:FtI w m bs B Ds vI vN vT vL I Nn T L X) {D:Nat} (h1:B≤D) (h2:X.heap[D]?=some (.deferred (some []))):FtI w m bs X.heap.size (D::Ds) vI vN vT vL I Nn T L X:=by
 have hs:=h.size
 have hh:=h.hbs
 refine⟨h.low,hh,Zm h.size h.bsize,Zc _,h.b0,h.b1,h.b2,h.rI,h.rN,h.rT,h.rL,⟨fun D' hD'=>?_,List.nodup_cons.2 ⟨fun hm=>?_,h.marks.2⟩⟩,fun D' hD'=>?_⟩
 ·rcases ZQ.1 hD' with rfl|hm
  ·exact⟨oq,h2⟩
  exact h.marks.1 D' hm
 ·have:=h.under D hm
  omega
 rcases ZQ.1 hD' with rfl|hm
 ·exact Zb h2
 have:=h.under D' hm
 have:=h.bsize
 omega
theorem jJ {w:World} {b:Nat} {v0 v1 v2 v3:Value} {t:TypeId} (h:w.heap[b]?=some (.cells #[v0,v1,v2,v3] t (0,0))) (u:Value) :
  (w.setCell ⟨b,0,none⟩ u).heap[b]?=some (.cells #[u,v1,v2,v3] t (0,0))∧(w.setCell ⟨b,1,none⟩ u).heap[b]?=some (.cells #[v0,u,v2,v3] t (0,0))∧(w.setCell ⟨b,2,none⟩ u).heap[b]?=some (.cells #[v0,v1,u,v3] t (0,0))∧(w.setCell ⟨b,3,none⟩ u).heap[b]?=some (.cells #[v0,v1,v2,u] t (0,0)):=by
 have h0:=Zj _ b 0 _ t u h
 have h1:=Zj _ b 1 _ t u h
 have h2:=Zj _ b 2 _ t u h
 have h3:=Zj _ b 3 _ t u h
 refine⟨?_,?_,?_,?_⟩
 ·simpa only [sA,sB,sC] using h0
 ·simpa only [sA,sB,sC] using h1
 ·simpa only [sA,sB,sC] using h2
 simpa only [sA,sB,sC] using h3
theorem Kf {e:TypeId} {w:World} {b o:Nat} {cur:Array Value} {fz:Nat × Nat} (h:w.heap[b]?=some (.cells cur e fz)) (u:Value):Sty e w (w.setCell ⟨b,o,none⟩ u):=fun k ob hk ho=>by
 refine(Zr _ _ _ _ (fun he=>?_)).trans hk
 have he:k=b:=he
 subst he
 rw[h] at hk
 injection hk with hk
 exact ho _ _ hk.symm
theorem FtI.appI (h:FtI w m bs B Ds vI vN vT vL I Nn T L X) {w6 w4:World} (hb6:Below X.heap.size X w6) {cs:List (List Value)} {n:Nat} (hn:I.length=n) (r1:cs.length=I.length) (r2:X.ownsRow bs 50 2 vI n cs.flatten) (r3:∀c∈cs,c.length=2)
  (r4:∀j (hj:j<I.length) (hj':j<cs.length),zr X cs[j] I[j]) {c:List Value} (hcl:c.length=2) {x:Int × Int} (hx:zr w6 c x) {ob:Obj} {v':Value} (hown4:w4.ownsRow bs 50 2 v' (n+1) (cs.flatten++c)) (hg4:(w6.alloc ob).grownBy w4 vI.ownBlock) :
  (w4.cell? ⟨w.heap.size+1+1,0,none⟩=some vI∧w4.frozen? ⟨w.heap.size+1+1,0,none⟩=false)∧FtI w m bs B Ds v' vN vT vL (I++[x]) Nn T L (w4.setCell ⟨w.heap.size+1+1,0,none⟩ v')∧Sty 50 X w4∧Below w.heap.size X w4:=by
 subst hn
 obtain⟨hs,hs6,hbe,hsz⟩:=Jr r2 hb6 hg4
 have h1:=h.hbs
 have h2:=h.size
 have h3:=h.bsize
 have hlw:=h.low.size
 have hx':zr w4 c x:=hx
 have hb2:=hs.cells h.b2 (by decide)
 have hset:Sty 35 w4 (w4.setCell ⟨w.heap.size+1+1,0,none⟩ v'):=Kf hb2 v'
 have hoth:∀k,k≠w.heap.size+1+1→(w4.setCell ⟨w.heap.size+1+1,0,none⟩ v').heap[k]?=w4.heap[k]?:=fun k hk=>Zr _ _ _ _ (fun e=>hk e)
 have hb4:Below w.heap.size X w4:=hbe _ oq hlw
 refine⟨⟨by simp[World.cell?,hb2],by simp[World.frozen?,hb2]⟩,⟨(h.low.trans hb4).setCell (p:=⟨w.heap.size+1+1,0,none⟩) (by show w.heap.size≤w.heap.size+1+1;omega) _,h1,h2,?_,?_,?_,(jJ hb2 v').1,?_,?_,?_,?_,?_,h.under⟩,hs,hb4⟩
 ·have:=((Zg 0 w4).setCell (p:=⟨w.heap.size+1+1,0,none⟩) (Zk _) v').size
  omega
 ·exact(hoth _ oq).trans (hs.cells h.b0 (by decide))
 ·exact(hoth _ oq).trans (hs.cells h.b1 (by decide))
 ·exact(QR (w4:=w4) (Pe:=zr) r1 r2 r3 r4 (fun c x hc=>hc) hcl hx' hown4).stays hset.stays (by decide) (fun c x hc=>hc)
 ·exact(h.rN.stays hs.stays (by decide) (fun c x hc=>hc.stays hs.stays (by decide) (by decide))).stays hset.stays (by decide) (fun c x hc=>hc.stays hset.stays (by decide) (by decide))
 ·exact(h.rT.stays hs.stays (by decide) (fun c x hc=>hc.stays hs.stays (by decide) (by decide))).stays hset.stays (by decide) (fun c x hc=>hc.stays hset.stays (by decide) (by decide))
 ·exact(h.rL.stays hs.stays (by decide) (fun c x hc=>hc.stays hs.stays (by decide))).stays hset.stays (by decide) (fun c x hc=>hc.stays hset.stays (by decide))
 exact(h.marks.sty hs).sty hset
theorem FtI.appN (h:FtI w m bs B Ds vI vN vT vL I Nn T L X) {w6 w4:World} (hb6:Below X.heap.size X w6) {cs:List (List Value)} {n:Nat} (hn:Nn.length=n) (r1:cs.length=Nn.length) (r2:X.ownsRow bs 94 10 vN n cs.flatten) (r3:∀c∈cs,c.length=10)
  (r4:∀j (hj:j<Nn.length) (hj':j<cs.length),Vp X cs[j] Nn[j]) {c:List Value} (hcl:c.length=10) {x:ND} (hx:Vp w6 c x) {ob:Obj} {v':Value} (hown4:w4.ownsRow bs 94 10 v' (n+1) (cs.flatten++c)) (hg4:(w6.alloc ob).grownBy w4 vN.ownBlock) :
  (w4.cell? ⟨w.heap.size+1+1,1,none⟩=some vN∧w4.frozen? ⟨w.heap.size+1+1,1,none⟩=false)∧FtI w m bs B Ds vI v' vT vL I (Nn++[x]) T L (w4.setCell ⟨w.heap.size+1+1,1,none⟩ v')∧Sty 94 X w4∧Below w.heap.size X w4:=by
 subst hn
 obtain⟨hs,hs6,hbe,hsz⟩:=Jr r2 hb6 hg4
 have h1:=h.hbs
 have h2:=h.size
 have h3:=h.bsize
 have hlw:=h.low.size
 have hx':Vp w4 c x:=hx.stays hs6.stays (by decide) (by decide)
 have hb2:=hs.cells h.b2 (by decide)
 have hset:Sty 35 w4 (w4.setCell ⟨w.heap.size+1+1,1,none⟩ v'):=Kf hb2 v'
 have hoth:∀k,k≠w.heap.size+1+1→(w4.setCell ⟨w.heap.size+1+1,1,none⟩ v').heap[k]?=w4.heap[k]?:=fun k hk=>Zr _ _ _ _ (fun e=>hk e)
 have hb4:Below w.heap.size X w4:=hbe _ oq hlw
 refine⟨⟨by simp[World.cell?,hb2],by simp[World.frozen?,hb2]⟩,⟨(h.low.trans hb4).setCell (p:=⟨w.heap.size+1+1,1,none⟩) (by show w.heap.size≤w.heap.size+1+1;omega) _,h1,h2,?_,?_,?_,(jJ hb2 v').2.1,?_,?_,?_,?_,?_,h.under⟩,hs,hb4⟩
 ·have:=((Zg 0 w4).setCell (p:=⟨w.heap.size+1+1,1,none⟩) (Zk _) v').size
  omega
 ·exact(hoth _ oq).trans (hs.cells h.b0 (by decide))
 ·exact(hoth _ oq).trans (hs.cells h.b1 (by decide))
 ·exact(h.rI.stays hs.stays (by decide) (fun c x hc=>hc)).stays hset.stays (by decide) (fun c x hc=>hc)
 ·exact(QR (w4:=w4) (Pe:=Vp) r1 r2 r3 r4 (fun c x hc=>hc.stays hs.stays (by decide) (by decide)) hcl hx' hown4).stays hset.stays (by decide) (fun c x hc=>hc.stays hset.stays (by decide) (by decide))
 ·exact(h.rT.stays hs.stays (by decide) (fun c x hc=>hc.stays hs.stays (by decide) (by decide))).stays hset.stays (by decide) (fun c x hc=>hc.stays hset.stays (by decide) (by decide))
 ·exact(h.rL.stays hs.stays (by decide) (fun c x hc=>hc.stays hs.stays (by decide))).stays hset.stays (by decide) (fun c x hc=>hc.stays hset.stays (by decide))
 exact(h.marks.sty hs).sty hset
theorem FtI.appT (h:FtI w m bs B Ds vI vN vT vL I Nn T L X) {w6 w4:World} (hb6:Below X.heap.size X w6) {cs:List (List Value)} {n:Nat} (hn:T.length=n) (r1:cs.length=T.length) (r2:X.ownsRow bs 53 4 vT n cs.flatten) (r3:∀c∈cs,c.length=4)
  (r4:∀j (hj:j<T.length) (hj':j<cs.length),(Qw bs) X cs[j] T[j]) {c:List Value} (hcl:c.length=4) {x:TK} (hx:Qw bs w6 c x) {ob:Obj} {v':Value} (hown4:w4.ownsRow bs 53 4 v' (n+1) (cs.flatten++c)) (hg4:(w6.alloc ob).grownBy w4 vT.ownBlock) :
  (w4.cell? ⟨w.heap.size+1+1,2,none⟩=some vT∧w4.frozen? ⟨w.heap.size+1+1,2,none⟩=false)∧FtI w m bs B Ds vI vN v' vL I Nn (T++[x]) L (w4.setCell ⟨w.heap.size+1+1,2,none⟩ v')∧Sty 53 X w4∧Below w.heap.size X w4:=by
 subst hn
 obtain⟨hs,hs6,hbe,hsz⟩:=Jr r2 hb6 hg4
 have h1:=h.hbs
 have h2:=h.size
 have h3:=h.bsize
 have hlw:=h.low.size
 have hx':(Qw bs) w4 c x:=hx.stays hs6.stays (by decide) (by decide)
 have hb2:=hs.cells h.b2 (by decide)
 have hset:Sty 35 w4 (w4.setCell ⟨w.heap.size+1+1,2,none⟩ v'):=Kf hb2 v'
 have hoth:∀k,k≠w.heap.size+1+1→(w4.setCell ⟨w.heap.size+1+1,2,none⟩ v').heap[k]?=w4.heap[k]?:=fun k hk=>Zr _ _ _ _ (fun e=>hk e)
 have hb4:Below w.heap.size X w4:=hbe _ oq hlw
 refine⟨⟨by simp[World.cell?,hb2],by simp[World.frozen?,hb2]⟩,⟨(h.low.trans hb4).setCell (p:=⟨w.heap.size+1+1,2,none⟩) (by show w.heap.size≤w.heap.size+1+1;omega) _,h1,h2,?_,?_,?_,(jJ hb2 v').2.2.1,?_,?_,?_,?_,?_,h.under⟩,hs,hb4⟩
 ·have:=((Zg 0 w4).setCell (p:=⟨w.heap.size+1+1,2,none⟩) (Zk _) v').size
  omega
 ·exact(hoth _ oq).trans (hs.cells h.b0 (by decide))
 ·exact(hoth _ oq).trans (hs.cells h.b1 (by decide))
 ·exact(h.rI.stays hs.stays (by decide) (fun c x hc=>hc)).stays hset.stays (by decide) (fun c x hc=>hc)
 ·exact(h.rN.stays hs.stays (by decide) (fun c x hc=>hc.stays hs.stays (by decide) (by decide))).stays hset.stays (by decide) (fun c x hc=>hc.stays hset.stays (by decide) (by decide))
 ·exact(QR (w4:=w4) (Pe:=(Qw bs)) r1 r2 r3 r4 (fun c x hc=>hc.stays hs.stays (by decide) (by decide)) hcl hx' hown4).stays hset.stays (by decide) (fun c x hc=>hc.stays hset.stays (by decide) (by decide))
 ·exact(h.rL.stays hs.stays (by decide) (fun c x hc=>hc.stays hs.stays (by decide))).stays hset.stays (by decide) (fun c x hc=>hc.stays hset.stays (by decide))
 exact(h.marks.sty hs).sty hset
theorem FtI.appL (h:FtI w m bs B Ds vI vN vT vL I Nn T L X) {w6 w4:World} (hb6:Below X.heap.size X w6) {cs:List (List Value)} {n:Nat} (hn:L.length=n) (r1:cs.length=L.length) (r2:X.ownsRow bs 77 5 vL n cs.flatten) (r3:∀c∈cs,c.length=5)
  (r4:∀j (hj:j<L.length) (hj':j<cs.length),(QH bs) X cs[j] L[j]) {c:List Value} (hcl:c.length=5) {x:TL} (hx:QH bs w6 c x) {ob:Obj} {v':Value} (hown4:w4.ownsRow bs 77 5 v' (n+1) (cs.flatten++c)) (hg4:(w6.alloc ob).grownBy w4 vL.ownBlock) :
  (w4.cell? ⟨w.heap.size+1+1,3,none⟩=some vL∧w4.frozen? ⟨w.heap.size+1+1,3,none⟩=false)∧FtI w m bs B Ds vI vN vT v' I Nn T (L++[x]) (w4.setCell ⟨w.heap.size+1+1,3,none⟩ v')∧Sty 77 X w4∧Below w.heap.size X w4:=by
 subst hn
 obtain⟨hs,hs6,hbe,hsz⟩:=Jr r2 hb6 hg4
 have h1:=h.hbs
 have h2:=h.size
 have h3:=h.bsize
 have hlw:=h.low.size
 have hx':(QH bs) w4 c x:=hx.stays hs6.stays (by decide)
 have hb2:=hs.cells h.b2 (by decide)
 have hset:Sty 35 w4 (w4.setCell ⟨w.heap.size+1+1,3,none⟩ v'):=Kf hb2 v'
 have hoth:∀k,k≠w.heap.size+1+1→(w4.setCell ⟨w.heap.size+1+1,3,none⟩ v').heap[k]?=w4.heap[k]?:=fun k hk=>Zr _ _ _ _ (fun e=>hk e)
 have hb4:Below w.heap.size X w4:=hbe _ oq hlw
 refine⟨⟨by simp[World.cell?,hb2],by simp[World.frozen?,hb2]⟩,⟨(h.low.trans hb4).setCell (p:=⟨w.heap.size+1+1,3,none⟩) (by show w.heap.size≤w.heap.size+1+1;omega) _,h1,h2,?_,?_,?_,(jJ hb2 v').2.2.2,?_,?_,?_,?_,?_,h.under⟩,hs,hb4⟩
 ·have:=((Zg 0 w4).setCell (p:=⟨w.heap.size+1+1,3,none⟩) (Zk _) v').size
  omega
 ·exact(hoth _ oq).trans (hs.cells h.b0 (by decide))
 ·exact(hoth _ oq).trans (hs.cells h.b1 (by decide))
 ·exact(h.rI.stays hs.stays (by decide) (fun c x hc=>hc)).stays hset.stays (by decide) (fun c x hc=>hc)
 ·exact(h.rN.stays hs.stays (by decide) (fun c x hc=>hc.stays hs.stays (by decide) (by decide))).stays hset.stays (by decide) (fun c x hc=>hc.stays hset.stays (by decide) (by decide))
 ·exact(h.rT.stays hs.stays (by decide) (fun c x hc=>hc.stays hs.stays (by decide) (by decide))).stays hset.stays (by decide) (fun c x hc=>hc.stays hset.stays (by decide) (by decide))
 ·exact(QR (w4:=w4) (Pe:=(QH bs)) r1 r2 r3 r4 (fun c x hc=>hc.stays hs.stays (by decide)) hcl hx' hown4).stays hset.stays (by decide) (fun c x hc=>hc.stays hset.stays (by decide))
 exact(h.marks.sty hs).sty hset
end
def flE (p:PG) (j:Nat):PE:=match p.flows[j]? with
 | some f=>f.e
 | none=>⟨0,ByteArray.empty,0,0,.nil,0⟩
noncomputable def tkR (p:PG) (xIx fIx iIx nIx:IE) (env:Env) (s:PE × ByteArray):TK :=
 ⟨(((nIx s.1.nm).getD 0:Nat):Int),(UX (Qk env) s.1).1,(UX (Qk env) s.1).2,(Qm s.1.args s.2 0).map (fun k=>((Vh p xIx fIx iIx k.1 k.2).1,(Vh p xIx fIx iIx k.1 k.2).2.reverse))⟩
noncomputable def tlR (p:PG) (xIx fIx iIx:IE) (env:Env) (o:OU):TL :=
 ⟨(Qk env o.fl).1,(Qk env o.fl).2,(Vh p xIx fIx iIx (flE p ((fIx o.fl).getD 0)) (dg ((fIx o.fl).getD 0))).1,(Vh p xIx fIx iIx (flE p ((fIx o.fl).getD 0)) (dg ((fIx o.fl).getD 0))).2.reverse,o.dl⟩
attribute [local go_sem] ZS
theorem xU {W0 w:World} (l:List ByteArray) (ad:Option Addr) (cap:Nat) (h:Row zu 1 W0 l ad) (hl:l.length≤1000) (hB:Below W0.heap.size W0 w) :
  Calls Tryz.prog 82 #[.slice ad l.length cap] w fun x w'=>(∃pa pc,x=.returned (.slice pa l.length pc)∧w'.ownsRow w.heap.size 9 1 (.slice pa l.length pc) l.length (l.map Value.string))∧Below w.heap.size w w':=by
 cases ad with
 | none =>
  have hl0:l.length=0:=by
   rcases h with rfl|⟨b,o,h,_⟩
   ·rfl
   cases h
  obtain rfl:l=[]:=Yb hl0
  refine(Tryz.slices_Clone_string_nil 0 cap w).mono ?_
  rintro x w' ⟨rfl,rfl⟩
  exact⟨⟨_,_,rfl,Yd _ _ _ _⟩,Zg _ _⟩
 | some a =>
  by_cases hn:l=[]
  ·subst hn
   refine(Tryz.slices_Clone_string_zero a cap w).mono ?_
   rintro x w' ⟨v',rfl,ho,_,hb⟩
   obtain⟨pa,pc,rfl⟩:=YD ho
   exact⟨⟨pa,pc,rfl,ho⟩,hb⟩
  rcases h with h|⟨b,o,h,hb,hc⟩
  ·exact absurd h hn
  cases h
  refine(Tryz.slices_Clone_string b o l.length cap l w (Zc _) oq (fun j hj=>?_)).mono ?_
  ·have h1:=(hc j hj).1
   rw[Z6] at h1
   rw[hB.cell (p:=⟨b,o+j,none⟩) hb,h1,Zf,Ze hj]
   rfl
  rintro x w' ⟨v',rfl,ho,_,hb⟩
  obtain⟨pa,pc,rfl⟩:=YD ho
  rw[ZR] at ho
  exact⟨⟨pa,pc,rfl,ho⟩,hb⟩
theorem VY {w:World} {b:Nat} {v0 v1 v2 v3 v4 v5 v6 v7 v8 v9:Value} {t:TypeId} (h:w.heap[b]?=some (.cells #[v0,v1,v2,v3,v4,v5,v6,v7,v8,v9] t (0,0))) :
  (w.cell? ⟨b,0,none⟩=some v0∧w.cell? ⟨b,1,none⟩=some v1∧w.cell? ⟨b,2,none⟩=some v2∧w.cell? ⟨b,3,none⟩=some v3∧w.cell? ⟨b,4,none⟩=some v4∧w.cell? ⟨b,5,none⟩=some v5∧w.cell? ⟨b,6,none⟩=some v6∧w.cell? ⟨b,7,none⟩=some v7∧w.cell? ⟨b,8,none⟩=some v8∧w.cell? ⟨b,9,none⟩=some v9)∧∀o,w.frozen? ⟨b,o,none⟩=false:=by
 refine⟨⟨?_,?_,?_,?_,?_,?_,?_,?_,?_,?_⟩,?_⟩
 all_goals first|(intro o;simp[World.frozen?,h])|simp[World.cell?,h]
theorem ZaZ {w:World} {b:Nat} {v0 v1 v2 v3 v4 v5 v6 v7 v8 v9:Value} {t:TypeId} (h:w.heap[b]?=some (.cells #[v0,v1,v2,v3,v4,v5,v6,v7,v8,v9] t (0,0))) (u1 u3 u4 u5 u6 u7 u8:Value) :
  (((((((w.setCell ⟨b,1,none⟩ u1).setCell ⟨b,3,none⟩ u3).setCell ⟨b,4,none⟩ u4).setCell ⟨b,5,none⟩ u5).setCell ⟨b,6,none⟩ u6).setCell ⟨b,7,none⟩ u7).setCell ⟨b,8,none⟩ u8).heap[b]?=some (.cells #[v0,u1,v2,u3,u4,u5,u6,u7,u8,v9] t (0,0)) ∧
  (((((((w.setCell ⟨b,3,none⟩ u3).setCell ⟨b,4,none⟩ u4).setCell ⟨b,5,none⟩ u5).setCell ⟨b,6,none⟩ u6).setCell ⟨b,7,none⟩ u7).setCell ⟨b,8,none⟩ u8).setCell ⟨b,1,none⟩ u1).heap[b]?=some (.cells #[v0,u1,v2,u3,u4,u5,u6,u7,u8,v9] t (0,0)):=by
 have h1:=Zj _ b 1 _ t u1 h
 have h3:=Zj _ b 3 _ t u3 h1
 have h4:=Zj _ b 4 _ t u4 h3
 have h5:=Zj _ b 5 _ t u5 h4
 have h6:=Zj _ b 6 _ t u6 h5
 have h7:=Zj _ b 7 _ t u7 h6
 have h8:=Zj _ b 8 _ t u8 h7
 have g3:=Zj _ b 3 _ t u3 h
 have g4:=Zj _ b 4 _ t u4 g3
 have g5:=Zj _ b 5 _ t u5 g4
 have g6:=Zj _ b 6 _ t u6 g5
 have g7:=Zj _ b 7 _ t u7 g6
 have g8:=Zj _ b 8 _ t u8 g7
 have g1:=Zj _ b 1 _ t u1 g8
 exact⟨by simpa only [sA,sB,sC] using h8,by simpa only [sA,sB,sC] using g1⟩
def slot (t:Array Value) (k:Nat):Value:=t.getD k undef
theorem uR {t:Array Value} (h:t.size=120):t=#[slot t 0,slot t 1,slot t 2,slot t 3,slot t 4,slot t 5,slot t 6,slot t 7,slot t 8,slot t 9,slot t 10,slot t 11,slot t 12,slot t 13,slot t 14,slot t 15,slot t 16,slot t 17,slot t 18,slot t 19,slot t 20,slot t 21,slot t 22,slot t 23,slot t 24,slot t 25,slot t 26,slot t 27,slot t 28,slot t 29,slot t 30,slot t 31,slot t 32,slot t 33,slot t 34,slot t 35,slot t 36,slot t 37,slot t 38,slot t 39,slot t 40,slot t 41,slot t 42,slot t 43,slot t 44,slot t 45,slot t 46,slot t 47,slot t 48,slot t 49,slot t 50,slot t 51,slot t 52,slot t 53,slot t 54,slot t 55,slot t 56,slot t 57,slot t 58,slot t 59,slot t 60,slot t 61,slot t 62,slot t 63,slot t 64,slot t 65,slot t 66,slot t 67,slot t 68,slot t 69,slot t 70,slot t 71,slot t 72,slot t 73,slot t 74,slot t 75,slot t 76,slot t 77,slot t 78,slot t 79,slot t 80,slot t 81,slot t 82,slot t 83,slot t 84,slot t 85,slot t 86,slot t 87,slot t 88,slot t 89,slot t 90,slot t 91,slot t 92,slot t 93,slot t 94,slot t 95,slot t 96,slot t 97,slot t 98,slot t 99,slot t 100,slot t 101,slot t 102,slot t 103,slot t 104,slot t 105,slot t 106,slot t 107,slot t 108,slot t 109,slot t 110,slot t 111,slot t 112,slot t 113,slot t 114,slot t 115,slot t 116,slot t 117,slot t 118,slot t 119]:=by
 have h1:t.toList=(List.range 120).map (slot t):=by
  refine List.ext_getElem (by simp[h]) (fun i hi1 hi2=>?_)
  rw[List.getElem_map,List.getElem_range]
  unfold slot
  have hi:i<t.size:=by simpa using hi1
  simp[Array.getD,hi]
 have h2:(List.range 120).map (slot t)=[slot t 0,slot t 1,slot t 2,slot t 3,slot t 4,slot t 5,slot t 6,slot t 7,slot t 8,slot t 9,slot t 10,slot t 11,slot t 12,slot t 13,slot t 14,slot t 15,slot t 16,slot t 17,slot t 18,slot t 19,slot t 20,slot t 21,slot t 22,slot t 23,slot t 24,slot t 25,slot t 26,slot t 27,slot t 28,slot t 29,slot t 30,slot t 31,slot t 32,slot t 33,slot t 34,slot t 35,slot t 36,slot t 37,slot t 38,slot t 39,slot t 40,slot t 41,slot t 42,slot t 43,slot t 44,slot t 45,slot t 46,slot t 47,slot t 48,slot t 49,slot t 50,slot t 51,slot t 52,slot t 53,slot t 54,slot t 55,slot t 56,slot t 57,slot t 58,slot t 59,slot t 60,slot t 61,slot t 62,slot t 63,slot t 64,slot t 65,slot t 66,slot t 67,slot t 68,slot t 69,slot t 70,slot t 71,slot t 72,slot t 73,slot t 74,slot t 75,slot t 76,slot t 77,slot t 78,slot t 79,slot t 80,slot t 81,slot t 82,slot t 83,slot t 84,slot t 85,slot t 86,slot t 87,slot t 88,slot t 89,slot t 90,slot t 91,slot t 92,slot t 93,slot t 94,slot t 95,slot t 96,slot t 97,slot t 98,slot t 99,slot t 100,slot t 101,slot t 102,slot t 103,slot t 104,slot t 105,slot t 106,slot t 107,slot t 108,slot t 109,slot t 110,slot t 111,slot t 112,slot t 113,slot t 114,slot t 115,slot t 116,slot t 117,slot t 118,slot t 119]:=rfl
 rw[h2] at h1
 exact Array.ext' h1
theorem Zaa {p:PG} {xIx fIx iIx:IE} (hE:∀e:PE,YF e=true→Y9 p.flows p.ins.length xIx fIx iIx e) {e:PE} {way:ByteArray} (hex:YF e=true) :
  ∀i c,e.args.at i=some c→∀h:i<((Qm e.args way 0).map (fun k=>((Vh p xIx fIx iIx k.1 k.2).1,(Vh p xIx fIx iIx k.1 k.2).2.reverse))).length,qZ p xIx fIx iIx c (way++⟨#[47]⟩++dg i) ((Qm e.args way 0).map (fun k=>((Vh p xIx fIx iIx k.1 k.2).1,(Vh p xIx fIx iIx k.1 k.2).2.reverse)))[i]:=by
 intro i c hc h
 have hk:=yg e.args way 0 i c hc
 rw[ZC] at hk
 obtain⟨h1,h2⟩:=Zz.1 hk
 obtain⟨N,hN⟩:=Je (hE c (JO hex hc)) (way++⟨#[47]⟩++dg i)
 rw[List.getElem_map,h2]
 exact⟨N,(Vh p xIx fIx iIx c (way++⟨#[47]⟩++dg i)).2,hN,rfl⟩
theorem VD {base base':Nat} {w:World} {c:List Value} {x:TL} (h:QH base w c x) (hb:base'≤base):QH base' w c x:=by
 obtain⟨v,h1,h2⟩:=h
 exact⟨v,h1,Y6 h2 hb⟩
theorem map_take {α β:Type} (f:α→β) {l:List α} {i:Nat} (h:i<l.length):(l.take (i+1)).map f=(l.take i).map f++[f l[i]]:=by
 rw[Zu h,ZT]
 rfl
theorem ky {W0 w:World} (p:PG) (an ai af ao:Option Addr) (cn ci cf co:Nat) (hp:AP W0 p an ai af ao cn ci cf co) (hok:Jd p) (mc mi mf mn mx m:Nat) (Lc Li Lf Ln Lx:List (ByteArray × Value)) (hM:Mkr W0 p an ai af ao cn ci cf co mc mi mf mn mx m Lc Li Lf Ln Lx w)
  (xIx fIx iIx nIx:IE) (hX:Xf Lx xIx) (hF:Xf Lf fIx) (hI:Xf Li iIx) (hN:Xf Ln nIx) (hxb:∀k j,xIx k=some j→j≤1000) (env:Env) (hC:Xt Lc env) (hE:∀e:PE,YF e=true→Y9 p.flows p.ins.length xIx fIx iIx e) (hps:∀x∈p.nodes,x.ps.length≤1000) (hfew:(YL p.flows 0).length≤30)
  (hout:∀o∈p.outs,∃j,fIx o.fl=some j∧j<p.flows.length) :
  Calls Tryz.prog 49 #[.pointer (some ⟨m,0,none⟩)] w fun x w'=>(∃vI vN vT vL,x=.returned (.agg #[vI,vN,vT,vL])∧Y1 zr 50 2 w' w.heap.size vI (p.ins.map (fun x=>(x.per,x.ph)))∧Y1 Vp 94 10 w' w.heap.size vN p.nodes ∧
   Y1 (Qw w.heap.size) 53 4 w' w.heap.size vT ((YL p.flows 0).map (tkR p xIx fIx iIx nIx env))∧Y1 (QH w.heap.size) 77 5 w' w.heap.size vL (p.outs.map (tlR p xIx fIx iIx env)))∧Below w.heap.size w w':=by
 have hlm:=hM.lt
 have hw0:=hM.low.size
 have hll:=hok.lens
 have hl1:m<w.heap.size+1:=oq
 have hl2:m<w.heap.size+1+1:=oq
 have hl3:m<w.heap.size+1+1+1:=oq
 have HM:=hid hM
 have HP:=hid hp
 have HOK:=hid hok
 have HMAPS:=hid (Zh hX (Zh hF (Zh hI (Zh hN hxb))))
 have HCR:=hid hC
 have HE:=hid hE
 have HPS:=hid hps
 have HOUT:=hid hout
 obtain⟨⟨x0,x1,x2,x3,x4,x5,x6,x7,x8⟩,xf⟩:=YN (show w.heap[m]?=_ from hM.box)
 clear hM hp hok hX hF hI hN hxb hE hC hps hout
 refine(Zs (n:=6)).1 ?_
 refine callsIn_of_wp_marks Tryz.func49 rfl trivial ?_ rfl
 simp only[Tryz.ntmps49,ZH,Zp,Zv,Nat.reduceAdd,Nat.reduceSub,ZE,ZD,ZK,ZI,ZL,ZB]
 gi_wp2
 obtain⟨W1,hW1⟩:∃W1,((w.alloc (.cells #[.pointer (some ⟨m,0,none⟩)] 116)).alloc (.cells #[.slice none 0 0,.slice none 0 0,.slice none 0 0,.slice none 0 0] 35)).alloc (.cells #[.slice none 0 0,.slice none 0 0,.slice none 0 0,.slice none 0 0] 35)=W1:=⟨_,rfl⟩
 rw[hW1]
 obtain⟨bs,hbs⟩:∃bs,W1.heap.size=bs:=⟨_,rfl⟩
 have hs1:W1.heap.size=w.heap.size+3:=by rw[←hW1];simp
 have HN1:=hid (show FtI w m bs W1.heap.size [] (.slice none 0 0) (.slice none 0 0) (.slice none 0 0) (.slice none 0 0) [] [] [] [] W1 from ⟨by rw[←hW1];exact bq,oq,oq,Zc _,by rw[←hW1];exact((Boxed.new _ _ _).alloc _).alloc _,
  by rw[←hW1];have:=(Za _ (.cells #[.slice none 0 0,.slice none 0 0,.slice none 0 0,.slice none 0 0] 35) _ (by simp)).trans (Yt (w.alloc (.cells #[.pointer (some ⟨m,0,none⟩)] 116)) (.cells #[.slice none 0 0,.slice none 0 0,.slice none 0 0,.slice none 0 0] 35));simpa using this,
  by rw[←hW1];have:=Yt ((w.alloc (.cells #[.pointer (some ⟨m,0,none⟩)] 116)).alloc (.cells #[.slice none 0 0,.slice none 0 0,.slice none 0 0,.slice none 0 0] 35)) (.cells #[.slice none 0 0,.slice none 0 0,.slice none 0 0,.slice none 0 0] 35);simpa using this,
  Y1.nil,Y1.nil,Y1.nil,Y1.nil,⟨by simp,List.nodup_nil⟩,by simp⟩)
 clear hl1 hl2 hl3 hW1 hbs hs1 x0 x1 x2 x3 x4 x5 x6 x7 x8 xf
 gi_loopw [19] (fun s19 X=>Hid (∃(i:Nat) (vI:Value),s19=.int .i64 (i:Int)∧i≤p.ins.length∧FtI w m bs X.heap.size [] vI (.slice none 0 0) (.slice none 0 0) (.slice none 0 0) ((p.ins.take i).map (fun x=>(x.per,x.ph))) [] [] [] X)) (fun s19 _=>p.ins.length-(intOf s19).toNat)
 case atStart=>exact⟨0,_,rfl,Zk _,HN1.out⟩
 obtain⟨i,vI,rfl,hi,hT⟩:=hrel.out
 clear hrel HN1
 obtain⟨W1',rfl⟩:∃W1':World,W1'=W1:=⟨_,rfl⟩
 have HTT:=hid hT
 have HW:=hid (HM.out.low.trans (hT.low.mono hw0))
 have c0:=hT.b0.cell
 by_cases hlt:i<p.ins.length
 ·have hil:(i:Int)<(p.ins.length:Int):=oq
  obtain⟨bb,oo,rfl,hbb0,hin0⟩:=HP.out.ins.at hlt
  have hin:=hin0.later HW.out hbb0
  have hbb:bb<wr.heap.size:=Zd hbb0 HW.out.size
  obtain⟨⟨nm,per,ph,fa⟩,hf⟩:∃f,p.ins[i]=f:=⟨_,rfl⟩
  rw[hf] at hin
  obtain⟨y0,y1,y2,y3,_⟩:=hin
  simp only at y0 y1 y2 y3
  have HF1:=hid hf
  clear hin0 hf
  gi_wp2
  obtain⟨W2,hW2⟩:∃W2,wr.alloc (.cells #[.string nm,.int .i64 per,.int .i64 ph,.int .i64 fa] 102)=W2:=⟨_,rfl⟩
  have hb2:Below wr.heap.size wr W2:=by rw[←hW2];exact(Zg _ _).alloc (Zc _) _
  have bx2:W2.heap[wr.heap.size]?=some (.cells #[.string nm,.int .i64 per,.int .i64 ph,.int .i64 fa] 102 (0,0)):=by rw[←hW2];exact Yt wr _
  rw[hW2]
  have ho2:=Zb bx2
  clear hW2 y0 y1 y2 y3 c0
  have hT2:=(HTT.out.keep hb2).more (B':=W2.heap.size) hb2.size (Zc _)
  have HT:=hid hT2
  have hHB:=hT2.hbs
  have hHS:=hT2.size
  obtain⟨⟨c0,c1,c2,c3⟩,cz⟩:=Yu bx2
  obtain⟨⟨f0,f1,f2,f3⟩,ff⟩:=Yu hT2.b2
  obtain⟨cs,r1,r2,r3,r4⟩:=hT2.rI
  have hnl:((p.ins.take i).map (fun x:IN=>(x.per,x.ph))).length=i:=by rw[Zo,Z9];omega
  rw[hnl] at r2
  have HNL:=hid hnl
  obtain⟨av,cv,rfl⟩:=YD r2
  have HR1:=hid r1
  have HR2:=hid r2
  have HR3:=hid r3
  have HR4:=hid r4
  obtain⟨i0,hi0,hi1,hi2,hi3⟩:=info_parts qt
  have HIO:=hid (Zh hi0 (Zh hi1 (Zh hi2 hi3)))
  have HBX:=hid hT2.b2
  have hf2:w.heap.size+1+1<W2.heap.size:=oq
  have HIC:=hid (fun w'=>JS (w:=w') nm per ph fa)
  clear hT hT2 r1 r2 r3 r4 hi0 hi1 hi2 hi3 hnl hb2 bx2
  refine wpIn_wide.2 (wp_region_noPanic ?_)
  go_region_law (first|(refine step_append_lies _ (by rfl) _ _ _ (by rfl) bs 50 i0 _ 2 16 Tryz.underlying31 HIO.out.1 HIO.out.2.1 HIO.out.2.2.1 HIO.out.2.2.2 rfl oq (.slice av i cv) i cs.flatten (by rfl) ((own_below HR2.out HB6.out).alloc _) ⟨w6.heap.size,0,none⟩ 1 1 [.int .i64 per,.int .i64 ph] (by rfl) (by rfl) (World.news_of_block (Zy _ _)) (by simp[Value.oneCell']) oq (by unfold maxLen;omega) oq (by simp;have:=HB6.out.size;omega) (w6.heap.size+1) (by simp) ?_;intro gg cap4 w4 hown4 hgrow4 hat4 hlt4;have hAP:=HT.out.appI HB6.out HNL.out HR1.out HR2.out HR3.out HR4.out (c:=[.int .i64 per,.int .i64 ph]) rfl (x:=(per,ph)) (rfl) hown4 hgrow4;obtain⟨⟨kz4,kf4⟩,hnx,hsty,hbl⟩:=hAP;have HNX:=hid hnx;have HSTY:=hid hsty;have HBL:=hid hbl;clear hnx hsty hbl hown4 hgrow4)|(go_simp;go_at_call 78;refine(HIC.out _).mono ?_;rintro x w6 ⟨rfl,hb6⟩;have hb6':Below W2.heap.size W2 w6:=bq;obtain⟨⟨t0,t1,t2,t3⟩,tf⟩:=Yu ((hb6'.block _ hf2).trans HBX.out);have HB6:=hid hb6';have hx6:w.heap.size+1+1<w6.heap.size:=Zd hf2 hb6'.size;have hx6n:¬w.heap.size+1+1=w6.heap.size:=Nat.ne_of_lt hx6;clear hb6 hb6'))
  all_goals
   refine NoPanic.normal ?_
   gi_wp2
   have hz:=HNX.out
   have hmt:=map_take (fun x:IN=>(x.per,x.ph)) hlt
   rw[HF1.out] at hmt
   rw[←hmt] at hz
   exact⟨hid ⟨i+1,_,by go_num,hlt,hz.more hz.bsize (Zc _)⟩,by simp[intOf];omega⟩
 have hie0:i=p.ins.length:=oq
 have hil:¬(i:Int)<(p.ins.length:Int):=oq
 subst hie0
 rw[ZR] at hT
 obtain⟨W2,rfl⟩:∃W2:World,W2=wr:=⟨_,rfl⟩
 have HN2:=hid hT
 clear hT HTT
 obtain⟨⟨x0,x1,x2,x3,x4,x5,x6,x7,x8⟩,xf⟩:=YN (show W2.heap[m]?=_ from(HN2.out.low.block m hlm).trans HM.out.box)
 gi_wp2
 gi_loopw [37] (fun s37 X=>Hid (∃(i:Nat) (vN:Value),s37=.int .i64 (i:Int)∧i≤p.nodes.length∧FtI w m bs X.heap.size [] vI vN (.slice none 0 0) (.slice none 0 0) (p.ins.map (fun x=>(x.per,x.ph))) (p.nodes.take i) [] [] X)) (fun s37 _=>p.nodes.length-(intOf s37).toNat)
 case atStart=>exact⟨0,_,rfl,Zk _,HN2.out⟩
 obtain⟨i,vN,rfl,hi2,hT⟩:=hrel.out
 clear hrel HN2 x0 x1 x2 x3 x4 x5 x6 x7 x8 xf c0 hil HW
 have HTT:=hid hT
 have HW:=hid (HM.out.low.trans (hT.low.mono hw0))
 have c0:=hT.b0.cell
 by_cases hlt:i<p.nodes.length
 ·have hil:(i:Int)<(p.nodes.length:Int):=oq
  have hpl:=HPS.out _ (Zi hlt)
  have hsz:=(HOK.out.nodes _ (Zi hlt)).2
  obtain⟨bb,oo,rfl,hbb0,hin0⟩:=HP.out.nodes.at hlt
  have hbb:bb<wr.heap.size:=Zd hbb0 HW.out.size
  have hcb:=fun o=>HW.out.cell (p:=⟨bb,o,none⟩) hbb0
  obtain⟨⟨nm,ps,bud,⟨k2,nm2,n2,d2,args2,a2⟩,fa⟩,hf⟩:∃f,p.nodes[i]=f:=⟨_,rfl⟩
  rw[hf] at hin0 hpl hsz
  obtain⟨q0,⟨pad,pcap,q1,_,_,hrow⟩,q2,⟨ead,ecap,q3,q4,q5,q6,q7,q8,hae⟩,q9,_⟩:=hin0
  simp only at q0 q1 q2 q3 q4 q5 q6 q7 q8 q9 hpl hsz hrow
  unfold PE.sz at hsz
  simp only at hsz
  have y0:=(hcb _).trans q0
  have y1:=(hcb _).trans q1
  have y2:=(hcb _).trans q2
  have y3:=(hcb _).trans q3
  have y4:=(hcb _).trans q4
  have y5:=(hcb _).trans q5
  have y6:=(hcb _).trans q6
  have y7:=(hcb _).trans q7
  have y8:=(hcb _).trans q8
  have y9:=(hcb _).trans q9
  have HF1:=hid hf
  have HCS:=hid (fun(w':World) (hb:Below W0.heap.size W0 w')=>xU (w:=w') ps pad pcap hrow hpl hb)
  have HCP:=hid (fun(w':World) (hb:Below W0.heap.size W0 w')=>xW _ ⟨k2,nm2,n2,d2,args2,a2⟩ (ZU _) (by show args2.sz≤900;omega) w' ead ecap hae hb)
  unfold ev at HCP
  simp only at HCP
  clear q0 q1 q2 q3 q4 q5 q6 q7 q8 q9 hcb hf hrow hae
  gi_wp2
  obtain⟨W4,hW4⟩:∃W4,wr.alloc (.cells #[.string nm,.slice pad ps.length pcap,.int .i64 bud,.int .i64 k2,.string nm2,.int .i64 n2,.int .i64 d2,.slice ead args2.len ecap,.int .i64 a2,.int .i64 fa] 94)=W4:=⟨_,rfl⟩
  have hb4:Below wr.heap.size wr W4:=by rw[←hW4];exact(Zg _ _).alloc (Zc _) _
  have bx4:W4.heap[wr.heap.size]?=some (.cells #[.string nm,.slice pad ps.length pcap,.int .i64 bud,.int .i64 k2,.string nm2,.int .i64 n2,.int .i64 d2,.slice ead args2.len ecap,.int .i64 a2,.int .i64 fa] 94 (0,0)):=by rw[←hW4];exact Yt wr _
  rw[hW4]
  have ho4:=Zb bx4
  clear hW4 y0 y1 y2 y3 y4 y5 y6 y7 y8 y9 c0
  have HT4:=hid ((HTT.out.keep hb4).more (B':=W4.heap.size) hb4.size (Zc _))
  have HW4:=hid (HW.out.trans (hb4.mono HW.out.size))
  have HB4:=hid bx4
  obtain⟨⟨c0,c1,c2,c3,c4,c5,c6,c7,c8,c9⟩,cz⟩:=VY bx4
  have HB44:=hid hb4
  have hs44:=hb4.size
  clear hT hb4 bx4
  gi_cut [7] from 120 (fun s7 X=>Hid (s7=.pointer (some ⟨wr.heap.size,0,none⟩)∧∃pa pc ea ec,X.heap[wr.heap.size]?=some (.cells #[.string nm,.slice pa ps.length pc,.int .i64 bud,.int .i64 k2,.string nm2,.int .i64 n2,.int .i64 d2,.slice ea args2.len ec,.int .i64 a2,.int .i64 fa] 94 (0,0))∧Below wr.heap.size wr X∧X.ownsRow 0 9 1 (.slice pa ps.length pc) ps.length (ps.map Value.string)∧args2.len≤ec∧SlA X (fun _=>True) args2 ea))
  case first =>
   refine wpIn_wide.2 (wp_region_noPanic ?_)
   go_region_law (first|(go_simp;first|(go_at_call 82;refine(HCS.out _ bq).mono ?_;rintro x w5 ⟨⟨pa,pc,rfl,hps5⟩,hb5⟩;have HPS5:=hid hps5;clear hps5;have hbA:Below W4.heap.size W4 w5:=bq;have hzA:=hbA.size;obtain⟨⟨t0,t1,t2,t3,t4,t5,t6,t7,t8,t9⟩,tz⟩:=VY ((hbA.block _ ho4).trans HB4.out);clear hb5)|(go_at_call 83;refine(HCP.out _ (HW4.out.trans (hbA.mono HW4.out.size))).mono ?_;rintro x w6 ⟨⟨ea,ec,rfl,hec6,hsl6⟩,hb6⟩;have hbC:Below W4.heap.size W4 w6:=bq;have hzC:=hbC.size;have HPS6:=hid (own_below HPS5.out hb6);have HSL6:=hid (Zh hec6 (hsl6.mono (Q:=fun k=>W4.heap.size≤k) (fun k hk _=>Zm (by simpa using hzA) hk)));clear hec6 hsl6;have HBC:=hid hbC;have HB6:=hid ((hbC.block _ ho4).trans HB4.out);obtain⟨⟨v0,v1,v2,v3,v4,v5,v6,v7,v8,v9⟩,vz⟩:=VY ((hbC.block _ ho4).trans HB4.out);clear hb6 hbC)))
   all_goals
    refine NoPanic.normal ?_
    go_wp2_with fail
    gi_meet
    have hbz:Below wr.heap.size wr w6:=HB44.out.trans (HBC.out.mono hs44)
    have hup:∀Z,Upon wr.heap.size w6 Z→Z.ownsRow 0 9 1 (.slice pa ps.length pc) ps.length (ps.map Value.string)∧SlA Z (fun _=>True) args2 ea:=fun Z hu =>
     ⟨Y6 (Gc (base:=wr.heap.size+1) (Y6 HPS6.out (by show wr.heap.size+1≤W4.heap.size;omega)) (ZU _) hu) (Zk _),(HSL6.out.2.keep (Same.upon (by show ¬W4.heap.size≤wr.heap.size;omega) hu (Same.refl _ _))).mono (fun _ _ _=>trivial)⟩
    refine⟨rfl,pa,pc,ea,ec,(by first|exact(ZaZ HB6.out _ _ _ _ _ _ _).1|exact(ZaZ HB6.out _ _ _ _ _ _ _).2),bq,(hup _ ?_).1,HSL6.out.1,(hup _ ?_).2⟩
    all_goals (repeat (first|(with_reducible exact Upon.refl _ _)|(with_reducible refine Upon.setAt ?_ (Or.inl rfl) _)))
  obtain⟨rfl,pa,pc,ea,ec,hbx,hbw,hps5,hec5,hsl5⟩:=hcut.out
  obtain⟨W5,rfl⟩:∃W5:World,W5=wc:=⟨_,rfl⟩
  have HPE5:=hid (Zh hps5 (Zh hec5 hsl5))
  clear hps5 hec5 hsl5
  clear hcut c0 c1 c2 c3 c4 c5 c6 c7 c8 c9 cz HCS HCP HB4 HT4 HW4 HB44
  have hT2:=(HTT.out.keep hbw).more (B':=W5.heap.size) hbw.size (Zc _)
  have HT:=hid hT2
  have hHB:=hT2.hbs
  have hHS:=hT2.size
  have hHZ:=hT2.bsize
  obtain⟨⟨c0,c1,c2,c3,c4,c5,c6,c7,c8,c9⟩,cz⟩:=VY hbx
  obtain⟨⟨f0,f1,f2,f3⟩,ff⟩:=Yu hT2.b2
  obtain⟨cs,r1,r2,r3,r4⟩:=hT2.rN
  have hnl:(p.nodes.take i).length=i:=by rw[Z9];omega
  rw[hnl] at r2
  have HNL:=hid hnl
  obtain⟨av,cv,rfl⟩:=YD r2
  have HR1:=hid r1
  have HR2:=hid r2
  have HR3:=hid r3
  have HR4:=hid r4
  obtain⟨i0,hi0,hi1,hi4,hi3⟩:=info_parts zW
  have HIO:=hid (Zh hi0 (Zh hi1 (Zh hi4 hi3)))
  have HB6:=hid (Zg W5.heap.size W5)
  have hf2:w.heap.size+1+1<W5.heap.size:=oq
  clear hT2 r1 r2 r3 r4 hi0 hi1 hi3 hi4 hnl hbx hbw
  gi_upto_region 11 with fail
  refine wpIn_wide.2 (wp_region_noPanic ?_)
  go_wp2_with (refine wpList_append_lies _ (by rfl) _ _ _ (by rfl) bs 94 i0 _ 10 128 Tryz.underlying22 HIO.out.1 HIO.out.2.1 HIO.out.2.2.1 HIO.out.2.2.2 rfl oq (.slice av i cv) i cs.flatten (by rfl) ((own_below HR2.out HB6.out).alloc _) ⟨W5.heap.size,0,none⟩ 1 1 [.string nm,.slice pa ps.length pc,.int .i64 bud,.int .i64 k2,.string nm2,.int .i64 n2,.int .i64 d2,.slice ea args2.len ec,.int .i64 a2,.int .i64 fa] (by rfl) (by rfl) (World.news_of_block (Zy _ _)) (by simp[Value.oneCell']) oq (by unfold maxLen;omega) oq (by simp;have:=HB6.out.size;omega) (W5.heap.size+1) (by simp) ?_;intro gg cap4 w4 hown4 hgrow4 hat4 hlt4;have hAP:=HT.out.appN HB6.out HNL.out HR1.out HR2.out HR3.out HR4.out (c:=[.string nm,.slice pa ps.length pc,.int .i64 bud,.int .i64 k2,.string nm2,.int .i64 n2,.int .i64 d2,.slice ea args2.len ec,.int .i64 a2,.int .i64 fa]) rfl (x:=⟨nm,ps,bud,⟨k2,nm2,n2,d2,args2,a2⟩,fa⟩) (⟨pa,pc,ea,ec,rfl,HPE5.out⟩) hown4 hgrow4;obtain⟨⟨kz4,kf4⟩,hnx,hsty,hbl⟩:=hAP;have HNX:=hid hnx;have HSTY:=hid hsty;have HBL:=hid hbl;clear hnx hsty hbl hown4 hgrow4)
  refine NoPanic.normal ?_
  gi_wp2
  have hz:=HNX.out
  have hmt:=Em hlt
  rw[HF1.out] at hmt
  rw[←hmt] at hz
  exact⟨hid ⟨i+1,_,by go_num,hlt,hz.more hz.bsize (Zc _)⟩,by simp[intOf];omega⟩
 have hie0:i=p.nodes.length:=oq
 have hil:¬(i:Int)<(p.nodes.length:Int):=oq
 subst hie0
 rw[ZR] at hT
 obtain⟨W3,rfl⟩:∃W3:World,W3=wr:=⟨_,rfl⟩
 have HN3:=hid hT
 clear hT HTT
 obtain⟨⟨x0,x1,x2,x3,x4,x5,x6,x7,x8⟩,xf⟩:=YN (show W3.heap[m]?=_ from(HN3.out.low.block m hlm).trans HM.out.box)
 gi_wp2
 refine wpIn_loop (fun a' X=>∃(i:Nat) (Ds:List Nat) (dn:List (PE × ByteArray)) (vT:Value),(i≤p.flows.length∧dn++YL (p.flows.drop i) i=YL p.flows 0∧FtI w m bs X.heap.size Ds vI vN vT (.slice none 0 0) (p.ins.map (fun x=>(x.per,x.ph))) p.nodes (dn.map (tkR p xIx fIx iIx nIx env)) [] X) ∧
  a'.defers=Ds.map mk∧a'.tmps.size=120∧slot a'.tmps 0=.pointer (some ⟨m,0,none⟩)∧slot a'.tmps 1=.pointer (some ⟨w.heap.size,0,none⟩)∧slot a'.tmps 2=.pointer (some ⟨w.heap.size+1,0,none⟩)∧slot a'.tmps 3=.pointer (some ⟨w.heap.size+1+1,0,none⟩)∧slot a'.tmps 60=.slice af p.flows.length cf∧slot a'.tmps 61=.int .i64 (p.flows.length:Int)∧slot a'.tmps 62=.int .i64 (i:Int))
  (fun a' _=>p.flows.length-(intOf (slot a'.tmps 62)).toNat) ⟨0,[],[],_,⟨Zk _,rfl,HN3.out⟩,rfl,rfl,rfl,rfl,rfl,rfl,rfl,rfl,rfl⟩ ?_
 rintro⟨tt,df⟩ wo ⟨i,Ds,dn,vT,⟨hi3,hdn,hN⟩,rfl,hsz,hs_0,hs_1,hs_2,hs_3,hs_60,hs_61,hs_62⟩
 dsimp only at hsz hs_0 hs_1 hs_2 hs_3 hs_60 hs_61 hs_62 ⊢
 have hfr:=uR hsz
 rw[hs_0,hs_1,hs_2,hs_3,hs_60,hs_61,hs_62] at hfr
 rw[hs_62]
 rw[hfr]
 clear hfr hsz hs_0 hs_1 hs_2 hs_3 hs_60 hs_61 hs_62
 obtain⟨uu,huu⟩:∃uu:Nat→Value,slot tt=uu:=⟨_,rfl⟩
 rw[huu]
 clear huu tt
 clear HN3 x0 x1 x2 x3 x4 x5 x6 x7 x8 xf c0 hil HW
 have HN:=hid hN
 have c0:=hN.b0.cell
 have hlow:=hN.low
 have hsw:=hlow.size
 by_cases hlt:i<p.flows.length
 ·have hil:(i:Int)<(p.flows.length:Int):=oq
  rw[UK hlt] at hdn
  have HDN:=hid hdn
  have hdl:dn.length≤30:=by
   have h1:=Z1 List.length hdn
   simp only[Zw] at h1
   omega
  clear hdn hN
  gi_wp2_with (refine⟨trivial,?_⟩;gi_at_call 79;refine(Zs.2 (Vw (w:=wo) m i)).mono ?_;rintro x w5 ⟨rfl,rfl⟩)
  obtain⟨W5,hW5⟩:∃W5,(wo.alloc (.cells #[.pointer (some ⟨m,0,none⟩)] 116)).alloc (.cells #[.int .i64 (i:Int)] 3)=W5:=⟨_,rfl⟩
  rw[hW5]
  have hB5:Below wo.heap.size wo W5:=by rw[←hW5];exact bq
  have hs5:W5.heap.size=wo.heap.size+2:=by rw[←hW5];simp
  have bx1:Boxed W5 wo.heap.size 116 (.pointer (some ⟨m,0,none⟩)):=by rw[←hW5];exact(Boxed.new _ _ _).alloc _
  have bx2:Boxed W5 (wo.heap.size+1) 3 (.int .i64 (i:Int)):=by rw[←hW5];have:=Boxed.new (wo.alloc (.cells #[.pointer (some ⟨m,0,none⟩)] 116)) 3 (.int .i64 (i:Int));simpa using this
  clear hW5 c0
  have HN5:=hid ((HN.out.keep hB5).more (B':=W5.heap.size) hB5.size (Zc _))
  have hM5:=HM.out.grow (hlow.trans (hB5.mono hsw))
  have hB05:=hM5.low
  have HBX:=hid hM5.box
  have hw5:=hB05.size
  have hs53:wo.heap.size+1<W5.heap.size:=oq
  have hbs:=HN5.out.hbs
  have hbs2:=HN.out.size
  have hbs3:=HN.out.bsize
  clear hB5 hs5 hM5
  refine qI (w:=W5) (encs:=fun x:VS W0=>#[.agg #[.int .i64 x.s.1.k,.string x.s.1.nm,.int .i64 x.s.1.n,.int .i64 x.s.1.d,.slice x.ad x.s.1.args.len x.cap,.int .i64 x.s.1.a,.string x.s.2]]) rfl oq (gf:=119) (lb:=#[.pointer (some ⟨wo.heap.size,0,none⟩),.pointer (some ⟨wo.heap.size+1,0,none⟩)]) rfl trivial (enters_of Tryz.func119 kq rfl) (n₀:=W0.heap.size) (Bk:=wo.heap.size) hw5
   (JP p an ai _ ao cn ci cf co HP.out HOK.out mc mi mf mn mx m wo.heap.size (wo.heap.size+1) i _ hlt W5 wo.heap.size oq hB05 HBX.out bx1 bx2) (fun _=>rfl)
   (fun pre X=>∃vT,FtI w m bs W5.heap.size Ds vI vN vT (.slice none 0 0) (p.ins.map (fun x=>(x.per,x.ph))) p.nodes ((dn++pre.map (fun y:VS W0=>y.s)).map (tkR p xIx fIx iIx nIx env)) [] X)
   (fun pre X=>False)
   (fun s X Y row hs hg hr=>by obtain⟨vT,h⟩:=hs;exact⟨vT,h.own hg hr⟩) (fun s X Y row hs hg hr=>hs.elim) ⟨vT,by simpa using HN5.out⟩
   (fun x a' X=>∃(Bx:Nat),(W5.heap.size≤Bx∧X.heap[Bx]?=some (.cells #[.int .i64 x.s.1.k,.string x.s.1.nm,.int .i64 x.s.1.n,.int .i64 x.s.1.d,.slice x.ad x.s.1.args.len x.cap,.int .i64 x.s.1.a,.string x.s.2] 157 (0,0)))∧a'.defers=[]∧a'.tmps.size=120∧slot a'.tmps 1=.pointer (some ⟨w.heap.size,0,none⟩)∧slot a'.tmps 3=.pointer (some ⟨w.heap.size+1+1,0,none⟩)∧slot a'.tmps 9=.pointer (some ⟨Bx,0,none⟩))
   (fun x a' _ X Y row hs hg hrw=>by
    obtain⟨Bx,⟨h1,h2⟩,h3⟩:=hs
    refine⟨Bx,⟨h1,(hg.block Bx (Zq.1 h2).1 (fun e=>?_)).trans h2⟩,h3⟩
    obtain⟨_,o,ho,hc⟩:=hrw Bx e.symm
    rw[h2] at ho;cases ho;cases hc)
   ?assign ?body ?done ?stop
  case assign =>
   rintro l2 pre x X K ⟨vT',hIX⟩ hK
   gi_wp2
   exact hK _ _ ((Zg _ _).alloc (Zc _) _) ⟨vT',hIX.keep ((Zg _ _).alloc (Zc _) _)⟩ ⟨X.heap.size,⟨hIX.bsize,Yt X _⟩,rfl,rfl,rfl,rfl,rfl⟩
  case body =>
   rintro l2 pre ⟨⟨⟨k2,nm2,n2,d2,args2,a2⟩,way2⟩,ad3,cap3,hok3⟩ ⟨tt,df⟩ X hl2' ⟨r,hr⟩ ⟨vT',hIX⟩ ⟨Bx,⟨hBx,hxb⟩,rfl,hsz,hs_1,hs_3,hs_9⟩ hlt2
   simp only at hxb
   dsimp only at hsz hs_1 hs_3 hs_9 ⊢
   have hfr:=uR hsz
   rw[hs_1,hs_3,hs_9] at hfr
   rw[hfr]
   clear hfr hsz hs_1 hs_3 hs_9
   obtain⟨ub,hub⟩:∃ub:Nat→Value,slot tt=ub:=⟨_,rfl⟩
   rw[hub]
   clear hub tt
   have hlX:=hIX.bsize
   have hbxlt:=Zb hxb
   obtain⟨⟨x0,x1,x2,x3,x4,x5,x6⟩,xf⟩:=YP hxb
   obtain⟨⟨f0,f1,f2,f3⟩,ff⟩:=Yu hIX.b2
   have cb:=hIX.b0.cell
   have hlwX:=hIX.low.size
   have hwlt:w.heap.size<X.heap.size:=hIX.b0.lt
   have hf2:w.heap.size+1+1<X.heap.size:=oq
   have hbsX:bs≤X.heap.size:=oq
   have KS:=hid (show ∀W:World,Below X.heap.size X W→(fun w'=>w'.cell? ⟨w.heap.size,0,none⟩=some (.pointer (some ⟨m,0,none⟩))∧w'.cell? ⟨Bx,0,none⟩=some (.int .i64 k2)∧w'.cell? ⟨Bx,1,none⟩=some (.string nm2)∧w'.cell? ⟨Bx,2,none⟩=some (.int .i64 n2)∧w'.cell? ⟨Bx,3,none⟩=some (.int .i64 d2)∧w'.cell? ⟨Bx,4,none⟩=some (.slice ad3 args2.len cap3)∧w'.cell? ⟨Bx,5,none⟩=some (.int .i64 a2)∧w'.cell? ⟨Bx,6,none⟩=some (.string way2)) W from fun W hb=>⟨(hb.cell (p:=⟨w.heap.size,0,none⟩) hwlt).trans cb,(hb.cell (p:=⟨Bx,0,none⟩) hbxlt).trans x0,(hb.cell (p:=⟨Bx,1,none⟩) hbxlt).trans x1,(hb.cell (p:=⟨Bx,2,none⟩) hbxlt).trans x2,(hb.cell (p:=⟨Bx,3,none⟩) hbxlt).trans x3,(hb.cell (p:=⟨Bx,4,none⟩) hbxlt).trans x4,(hb.cell (p:=⟨Bx,5,none⟩) hbxlt).trans x5,(hb.cell (p:=⟨Bx,6,none⟩) hbxlt).trans x6⟩)
   have HXBB:=hid (Zh hxb hIX.b0)
   have KY:=hid (show ∀W:World,Sty 53 X W→(fun w'=>w'.cell? ⟨w.heap.size,0,none⟩=some (.pointer (some ⟨m,0,none⟩))∧w'.cell? ⟨Bx,0,none⟩=some (.int .i64 k2)∧w'.cell? ⟨Bx,1,none⟩=some (.string nm2)∧w'.cell? ⟨Bx,2,none⟩=some (.int .i64 n2)∧w'.cell? ⟨Bx,3,none⟩=some (.int .i64 d2)∧w'.cell? ⟨Bx,4,none⟩=some (.slice ad3 args2.len cap3)∧w'.cell? ⟨Bx,5,none⟩=some (.int .i64 a2)∧w'.cell? ⟨Bx,6,none⟩=some (.string way2)) W from fun W hs=>by
    obtain⟨⟨g0,g1,g2,g3,g4,g5,g6⟩,_⟩:=YP (hs.cells HXBB.out.1 (by decide))
    exact⟨(show Boxed W w.heap.size _ _ from hs.cells HXBB.out.2 (by decide)).cell,g0,g1,g2,g3,g4,g5,g6⟩)
   have hnx:w.heap.size+1+1≠Bx:=oq
   have hnw:w.heap.size+1+1≠w.heap.size:=oq
   have KZ:=hid (show ∀(W:World) (v:Value),Sty 53 X W→(fun w'=>w'.cell? ⟨w.heap.size,0,none⟩=some (.pointer (some ⟨m,0,none⟩))∧w'.cell? ⟨Bx,0,none⟩=some (.int .i64 k2)∧w'.cell? ⟨Bx,1,none⟩=some (.string nm2)∧w'.cell? ⟨Bx,2,none⟩=some (.int .i64 n2)∧w'.cell? ⟨Bx,3,none⟩=some (.int .i64 d2)∧w'.cell? ⟨Bx,4,none⟩=some (.slice ad3 args2.len cap3)∧w'.cell? ⟨Bx,5,none⟩=some (.int .i64 a2)∧w'.cell? ⟨Bx,6,none⟩=some (.string way2)) (W.setCell ⟨w.heap.size+1+1,2,none⟩ v) from fun W v hs=>by
    obtain⟨h0,h1,h2,h3,h4,h5,h6,h7⟩:=KY.out W hs
    have hf:=fun o=>ZF W ⟨w.heap.size+1+1,2,none⟩ ⟨Bx,o,none⟩ v hnx
    exact⟨(ZF W ⟨w.heap.size+1+1,2,none⟩ ⟨w.heap.size,0,none⟩ v hnw).trans h0,(hf _).trans h1,(hf _).trans h2,(hf _).trans h3,(hf _).trans h4,(hf _).trans h5,(hf _).trans h6,(hf _).trans h7⟩)
   obtain⟨cs,r1,r2,r3,r4⟩:=hIX.rT
   obtain⟨nT,hnT⟩:∃nT,((dn++pre.map (fun y:VS W0=>y.s)).map (tkR p xIx fIx iIx nIx env)).length=nT:=⟨_,rfl⟩
   have hfsz:=(HOK.out.flows _ (Zi hlt)).1
   unfold PE.sz at hfsz
   have hnTb:nT≤200:=by rw[←hnT,Zo,Zw,Zo];omega
   rw[hnT] at r2
   obtain⟨av,cv,rfl⟩:=YD r2
   have HNL:=hid hnT
   have HR1:=hid r1
   have HR2:=hid r2
   have HR3:=hid r3
   have HR4:=hid r4
   obtain⟨i0,hi0,hi1,hi2,hi4⟩:=info_parts zX
   have HIO:=hid (Zh hi0 (Zh hi1 (Zh hi2 hi4)))
   have HBX2:=hid hIX.b2
   have HT:=hid hIX
   obtain⟨al6,hal6⟩:∃al6,(Qm args2 way2 0).map (fun k=>((Vh p xIx fIx iIx k.1 k.2).1,(Vh p xIx fIx iIx k.1 k.2).2.reverse))=al6:=⟨_,rfl⟩
   have hlen6:al6.length=args2.len:=by rw[←hal6,Zo,J5]
   have HLEN6:=hid hlen6
   obtain⟨⟨pp6,ff6⟩,hpf6⟩:∃r,UX (Qk env) ⟨k2,nm2,n2,d2,args2,a2⟩=r:=⟨_,rfl⟩
   obtain⟨nd6,hnd6⟩:∃nd6:Int,(((nIx nm2).getD 0:Nat):Int)=nd6:=⟨_,rfl⟩
   have htk:tkR p xIx fIx iIx nIx env (⟨k2,nm2,n2,d2,args2,a2⟩,way2)=⟨nd6,pp6,ff6,al6⟩:=by
    unfold tkR
    simp only
    rw[hnd6,hpf6,hal6]
   have hHTK:=fun(w':World) (hb:Below X.heap.size X w')=>gT p an ai af ao cn ci cf co HP.out HOK.out mc mi mf mn mx m Lc Li Lf Ln Lx (HM.out.grow (HT.out.low.trans (hb.mono hlwX))) xIx fIx iIx nIx HMAPS.out.1 HMAPS.out.2.1 HMAPS.out.2.2.1 HMAPS.out.2.2.2.1 HMAPS.out.2.2.2.2 env HCR.out ⟨k2,nm2,n2,d2,args2,a2⟩ way2 ad3 cap3 hok3 pp6 ff6 hpf6 al6 hlen6 (by rw[←hal6];exact Zaa HE.out hok3.good)
   unfold spv at hHTK
   simp only[hnd6] at hHTK
   have HTK:=hid hHTK
   have HEND:=hid (show ∀(w4:World) (v':Value),FtI w m bs W5.heap.size Ds vI vN v' (.slice none 0 0) (p.ins.map (fun x=>(x.per,x.ph))) p.nodes ((dn++pre.map (fun y:VS W0=>y.s)).map (tkR p xIx fIx iIx nIx env)++[⟨nd6,pp6,ff6,al6⟩]) [] (w4.setCell ⟨w.heap.size+1+1,2,none⟩ v')→Sty 53 X w4→Below w.heap.size X w4 →
     KeepsFrom W5.heap.size X (w4.setCell ⟨w.heap.size+1+1,2,none⟩ v')∧KF W0.heap.size wo.heap.size X (w4.setCell ⟨w.heap.size+1+1,2,none⟩ v') ∧
     ∃vT,FtI w m bs W5.heap.size Ds vI vN vT (.slice none 0 0) (p.ins.map (fun x=>(x.per,x.ph))) p.nodes ((dn++(pre++[(⟨(⟨k2,nm2,n2,d2,args2,a2⟩,way2),ad3,cap3,hok3⟩:VS W0)]).map (fun y:VS W0=>y.s)).map (tkR p xIx fIx iIx nIx env)) [] (w4.setCell ⟨w.heap.size+1+1,2,none⟩ v') from fun w4 v' hft hs hb=>by
    have hoth:∀k,k≠w.heap.size+1+1→(w4.setCell ⟨w.heap.size+1+1,2,none⟩ v').heap[k]?=w4.heap[k]?:=fun k hk=>Zr _ _ _ _ (fun e=>hk e)
    have hb2:Below w.heap.size X (w4.setCell ⟨w.heap.size+1+1,2,none⟩ v'):=hb.setCell (p:=⟨w.heap.size+1+1,2,none⟩) (by show w.heap.size≤w.heap.size+1+1;omega) _
    refine⟨⟨hb2.size,fun k o hk ho hc=>(hoth k oq).trans (hs k o ho (fun cur fz e=>by subst e;cases hc))⟩,⟨hb2.mono hw0,fun k o hk ho hc=>(hoth k oq).trans (hs k o ho (fun cur fz e=>by subst e;simp[kept] at hc))⟩,v',?_⟩
    simp only[ZT,List.map_cons,List.map_nil,htk,←List.append_assoc] at hft ⊢
    exact hft)
   clear hIX hxb r1 r2 r3 r4 hi0 hi1 hi2 hi4 hnT hlen6 hpf6 hnd6 hal6 htk hHTK x0 x1 x2 x3 x4 x5 x6 xf cb hr hlt2
   gi_wp2
   refine Vy (S:=fun w'=>w'.cell? ⟨w.heap.size,0,none⟩=some (.pointer (some ⟨m,0,none⟩))∧w'.cell? ⟨Bx,0,none⟩=some (.int .i64 k2)∧w'.cell? ⟨Bx,1,none⟩=some (.string nm2)∧w'.cell? ⟨Bx,2,none⟩=some (.int .i64 n2)∧w'.cell? ⟨Bx,3,none⟩=some (.int .i64 d2)∧w'.cell? ⟨Bx,4,none⟩=some (.slice ad3 args2.len cap3)∧w'.cell? ⟨Bx,5,none⟩=some (.int .i64 a2)∧w'.cell? ⟨Bx,6,none⟩=some (.string way2)) kq kq (by rintro⟨_,_,h⟩;exact h) (KS.out _ (Zg _ _).drew) (fun hHeld=>?_)
   refine tk 0 hHeld ?_
   refine tk 2 hHeld ?_
   refine tk 3 hHeld ?_
   refine rz 1 4 (fun K hK=>?_) fun K hK=>?_
   ·go_simp
    refine hK.out _ _ (fun hHeld=>?_) (by first|exact KS.out _ (Zg _ _).drew|exact KS.out _ HB6.out)
    clear hK K
    refine ry 4 fun K hK=>?_
    (go_simp;go_at_call 84;refine(HTK.out X.drew (Zg _ _).drew).mono ?_;rintro x w6 ⟨⟨v6,rfl,hr6⟩,hb6⟩;obtain⟨av6,cv6,hv6⟩:=hr6.form;rw[HLEN6.out] at hv6;subst hv6;have hb6':Below X.heap.size X w6:=bq;have hz6:=hb6'.size;obtain⟨⟨t0,t1,t2,t3⟩,tf⟩:=Yu ((hb6'.block _ hf2).trans HBX2.out);have HB6:=hid hb6';have HR6:=hid (hr6.mono (hbsX) (fun c x hc=>hc.mono hbsX));have hx6:w.heap.size+1+1<w6.heap.size:=Zd hf2 hz6;have hx6n:¬w.heap.size+1+1=w6.heap.size:=Nat.ne_of_lt hx6;clear hb6 hb6' hr6;try go_simp)
    refine hK.out _ _ (fun hHeld=>?_) (by exact KS.out _ HB6.out)
    clear hK K
    refine ry 5 fun K hK=>?_
    go_simp
    refine hK.out _ _ (fun hHeld=>?_) (by exact KS.out _ (HB6.out.alloc HB6.out.size _))
    clear hK K
    refine ry 6 fun K hK=>?_
    (refine step_append_lies _ (by rfl) _ _ _ (by rfl) bs 53 i0 _ 4 48 Tryz.underlying32 HIO.out.1 HIO.out.2.1 HIO.out.2.2.1 HIO.out.2.2.2 rfl oq (.slice av nT cv) nT cs.flatten (by rfl) ((own_below HR2.out HB6.out).alloc _) ⟨w6.heap.size,0,none⟩ 1 1 [.int .i64 nd6,.int .i64 pp6,.int .i64 ff6,.slice av6 args2.len cv6] (by rfl) (by rfl) (World.news_of_block (Zy _ _)) (by simp[Value.oneCell']) oq (by unfold maxLen;omega) oq (by simp;have:=HB6.out.size;omega) (w6.heap.size+1) (by simp) ?_;intro gg cap4 w4 hown4 hgrow4 hat4 hlt4;have hAP:=HT.out.appT HB6.out HNL.out HR1.out HR2.out HR3.out HR4.out (c:=[.int .i64 nd6,.int .i64 pp6,.int .i64 ff6,.slice av6 args2.len cv6]) rfl (x:=⟨nd6,pp6,ff6,al6⟩) (⟨_,rfl,HR6.out⟩) hown4 hgrow4;obtain⟨⟨kz4,kf4⟩,hnx,hsty,hbl⟩:=hAP;have HNX:=hid hnx;have HSTY:=hid hsty;have HBL:=hid hbl;clear hnx hsty hbl hown4 hgrow4)
    refine hK.out _ _ (fun hHeld=>?_) (by exact KY.out _ HSTY.out)
    clear hK K
    refine tk 7 hHeld ?_
    refine ry 8 fun K hK=>?_
    go_simp
    refine hK.out _ _ (fun hHeld=>?_) (by exact KZ.out _ _ HSTY.out)
    clear hK K
    refine Zx kq ?_ _
    (gi_wp2;first|exact HEND.out _ _ HNX.out HSTY.out HBL.out|trace_state)
   (go_simp;go_at_call 84;refine(HTK.out X.drew (Zg _ _).drew).mono ?_;rintro x w6 ⟨⟨v6,rfl,hr6⟩,hb6⟩;obtain⟨av6,cv6,hv6⟩:=hr6.form;rw[HLEN6.out] at hv6;subst hv6;have hb6':Below X.heap.size X w6:=bq;have hz6:=hb6'.size;obtain⟨⟨t0,t1,t2,t3⟩,tf⟩:=Yu ((hb6'.block _ hf2).trans HBX2.out);have HB6:=hid hb6';have HR6:=hid (hr6.mono (hbsX) (fun c x hc=>hc.mono hbsX));have hx6:w.heap.size+1+1<w6.heap.size:=Zd hf2 hz6;have hx6n:¬w.heap.size+1+1=w6.heap.size:=Nat.ne_of_lt hx6;clear hb6 hb6' hr6;try go_simp)
   refine hK.out _ _ (fun hHeld=>?_) (by first|exact KS.out _ (Zg _ _).drew|exact KS.out _ HB6.out)
   clear hK K
   refine rz 1 5 (fun K hK=>?_) fun K hK=>?_
   ·go_simp
    refine hK.out _ _ (fun hHeld=>?_) (by first|exact KS.out _ HB6.out|exact KS.out _ (HB6.out.alloc HB6.out.size _))
    clear hK K
    refine ry 5 fun K hK=>?_
    go_simp
    refine hK.out _ _ (fun hHeld=>?_) (by exact KS.out _ (HB6.out.alloc HB6.out.size _))
    clear hK K
    refine ry 6 fun K hK=>?_
    (refine step_append_lies _ (by rfl) _ _ _ (by rfl) bs 53 i0 _ 4 48 Tryz.underlying32 HIO.out.1 HIO.out.2.1 HIO.out.2.2.1 HIO.out.2.2.2 rfl oq (.slice av nT cv) nT cs.flatten (by rfl) ((own_below HR2.out HB6.out).alloc _) ⟨w6.heap.size,0,none⟩ 1 1 [.int .i64 nd6,.int .i64 pp6,.int .i64 ff6,.slice av6 args2.len cv6] (by rfl) (by rfl) (World.news_of_block (Zy _ _)) (by simp[Value.oneCell']) oq (by unfold maxLen;omega) oq (by simp;have:=HB6.out.size;omega) (w6.heap.size+1) (by simp) ?_;intro gg cap4 w4 hown4 hgrow4 hat4 hlt4;have hAP:=HT.out.appT HB6.out HNL.out HR1.out HR2.out HR3.out HR4.out (c:=[.int .i64 nd6,.int .i64 pp6,.int .i64 ff6,.slice av6 args2.len cv6]) rfl (x:=⟨nd6,pp6,ff6,al6⟩) (⟨_,rfl,HR6.out⟩) hown4 hgrow4;obtain⟨⟨kz4,kf4⟩,hnx,hsty,hbl⟩:=hAP;have HNX:=hid hnx;have HSTY:=hid hsty;have HBL:=hid hbl;clear hnx hsty hbl hown4 hgrow4)
    refine hK.out _ _ (fun hHeld=>?_) (by exact KY.out _ HSTY.out)
    clear hK K
    refine tk 7 hHeld ?_
    refine ry 8 fun K hK=>?_
    go_simp
    refine hK.out _ _ (fun hHeld=>?_) (by exact KZ.out _ _ HSTY.out)
    clear hK K
    refine Zx kq ?_ _
    (gi_wp2;first|exact HEND.out _ _ HNX.out HSTY.out HBL.out|trace_state)
   go_simp
   refine hK.out _ _ (fun hHeld=>?_) (by first|exact KS.out _ HB6.out|exact KS.out _ (HB6.out.alloc HB6.out.size _))
   clear hK K
   refine ry 1 fun K hK=>?_
   go_simp
   refine hK.out _ _ (fun hHeld=>?_) (by exact KS.out _ (HB6.out.alloc HB6.out.size _))
   clear hK K
   refine ry 6 fun K hK=>?_
   (refine step_append_lies _ (by rfl) _ _ _ (by rfl) bs 53 i0 _ 4 48 Tryz.underlying32 HIO.out.1 HIO.out.2.1 HIO.out.2.2.1 HIO.out.2.2.2 rfl oq (.slice av nT cv) nT cs.flatten (by rfl) ((own_below HR2.out HB6.out).alloc _) ⟨w6.heap.size,0,none⟩ 1 1 [.int .i64 nd6,.int .i64 pp6,.int .i64 ff6,.slice av6 args2.len cv6] (by rfl) (by rfl) (World.news_of_block (Zy _ _)) (by simp[Value.oneCell']) oq (by unfold maxLen;omega) oq (by simp;have:=HB6.out.size;omega) (w6.heap.size+1) (by simp) ?_;intro gg cap4 w4 hown4 hgrow4 hat4 hlt4;have hAP:=HT.out.appT HB6.out HNL.out HR1.out HR2.out HR3.out HR4.out (c:=[.int .i64 nd6,.int .i64 pp6,.int .i64 ff6,.slice av6 args2.len cv6]) rfl (x:=⟨nd6,pp6,ff6,al6⟩) (⟨_,rfl,HR6.out⟩) hown4 hgrow4;obtain⟨⟨kz4,kf4⟩,hnx,hsty,hbl⟩:=hAP;have HNX:=hid hnx;have HSTY:=hid hsty;have HBL:=hid hbl;clear hnx hsty hbl hown4 hgrow4)
   refine hK.out _ _ (fun hHeld=>?_) (by exact KY.out _ HSTY.out)
   clear hK K
   refine tk 7 hHeld ?_
   refine ry 8 fun K hK=>?_
   go_simp
   refine hK.out _ _ (fun hHeld=>?_) (by exact KZ.out _ _ HSTY.out)
   clear hK K
   refine Zx kq ?_ _
   (gi_wp2;first|exact HEND.out _ _ HNX.out HSTY.out HBL.out|trace_state)
  case done =>
   rintro D zs X hD hzs ⟨vT',hIX⟩ hK
   gi_wp2
   rw[show((i:Int)+1)=((i+1:Nat):Int) by omega]
   refine⟨⟨i+1,D::Ds,dn++zs.map (·.s),vT',⟨oq,?_,hIX.mark hD hK⟩,rfl,rfl,rfl,rfl,rfl,rfl,rfl,rfl,rfl⟩,by simp[intOf,slot];omega⟩
   rw[hzs,List.append_assoc]
   exact HDN.out
  rintro D pre X hD hpre hX hK
  exact hX.elim
 have hie0:i=p.flows.length:=oq
 have hil:¬(i:Int)<(p.flows.length:Int):=oq
 rw[hie0,Ym,YL,List.append_nil] at hdn
 subst hdn
 clear hN
 obtain⟨⟨x0,x1,x2,x3,x4,x5,x6,x7,x8⟩,xf⟩:=YN (show wo.heap[m]?=_ from(HN.out.low.block m hlm).trans HM.out.box)
 gi_wp2
 gi_loopw [84] (fun s84 X=>Hid (∃(i:Nat) (vL:Value),s84=.int .i64 (i:Int)∧i≤p.outs.length∧FtI w m bs X.heap.size Ds vI vN vT vL (p.ins.map (fun x=>(x.per,x.ph))) p.nodes ((YL p.flows 0).map (tkR p xIx fIx iIx nIx env)) ((p.outs.take i).map (tlR p xIx fIx iIx env)) X)) (fun s84 _=>p.outs.length-(intOf s84).toNat)
 case atStart=>exact⟨0,_,rfl,Zk _,HN.out⟩
 obtain⟨i,vL,rfl,hi4,hT⟩:=hrel.out
 clear hrel HN x0 x1 x2 x3 x4 x5 x6 x7 x8 xf hil c0 hlow hsw
 have HTT:=hid hT
 have HW:=hid (HM.out.low.trans (hT.low.mono hw0))
 have c0:=hT.b0.cell
 by_cases hlto:i<p.outs.length
 ·have hil:(i:Int)<(p.outs.length:Int):=oq
  obtain⟨bb,oo,rfl,hbb0,hin0⟩:=HP.out.outs.at hlto
  have hbb:bb<wr.heap.size:=Zd hbb0 HW.out.size
  have hcb:=fun o=>HW.out.cell (p:=⟨bb,o,none⟩) hbb0
  obtain⟨j,hj,hjl⟩:=HOUT.out _ (Zi hlto)
  obtain⟨⟨nm,fl,dl,fa⟩,hf⟩:∃f,p.outs[i]=f:=⟨_,rfl⟩
  rw[hf] at hin0 hj
  obtain⟨q0,q1,q2,q3,_⟩:=hin0
  simp only at q0 q1 q2 q3 hj
  have y0:=(hcb _).trans q0
  have y1:=(hcb _).trans q1
  have y2:=(hcb _).trans q2
  have y3:=(hcb _).trans q3
  have HF1:=hid hf
  have HJ:=hid hj
  have hfl1:=(HOK.out.flows _ (Zi hjl)).1
  have hfl2:=(HOK.out.flows _ (Zi hjl)).2
  have hHFS:=fun(w':World) (hb:Below W0.heap.size W0 w')=>Qc hb p an ai af _ cn ci cf co HP.out j hjl oq
  have hflE:flE p j=p.flows[j].e:=by unfold flE;rw[Ze hjl]
  obtain⟨⟨k1,nm1,n1,d1,args1,a1⟩,he1⟩:∃e,p.flows[j].e=e:=⟨_,rfl⟩
  rw[he1] at hHFS hfl1 hfl2 hflE
  obtain⟨⟨src,ops0⟩,hr0⟩:∃r,Vh p xIx fIx iIx ⟨k1,nm1,n1,d1,args1,a1⟩ (dg j)=r:=⟨_,rfl⟩
  obtain⟨ops,hops⟩:∃ops,ops0.reverse=ops:=⟨_,rfl⟩
  have hai:qZ p xIx fIx iIx ⟨k1,nm1,n1,d1,args1,a1⟩ (dg j) (src,ops):=by
   obtain⟨N,hN⟩:=Je (HE.out ⟨k1,nm1,n1,d1,args1,a1⟩ hfl2) (dg j)
   rw[hr0] at hN
   exact⟨N,ops0,hN,hops.symm⟩
  have HTL:=hid (show tlR p xIx fIx iIx env ⟨nm,fl,dl,fa⟩=⟨(Qk env fl).1,(Qk env fl).2,src,ops,dl⟩ by
   unfold tlR
   simp only[hj,Z7,hflE,hr0,hops])
  unfold spv PE.sz pv at *
  simp only at hHFS hfl1
  have HFS:=hid hHFS
  have HG2:=hid hfl2
  have hdg:=Ju (i:=j) oq
  have hHAO:=fun(w':World) (hb:Below w.heap.size w w') e5 way5 ad5 cap5 (hs5:X9 W0 e5 ad5 cap5 way5) r hr=>GM p an ai af _ cn ci cf co HP.out HOK.out mc mi mf mn mx m Lc Li Lf Ln Lx (HM.out.grow hb) xIx fIx iIx HMAPS.out.1 HMAPS.out.2.1 HMAPS.out.2.2.1 HMAPS.out.2.2.2.2 e5 way5 ad5 cap5 hs5 r hr
  unfold spv at hHAO
  have HAO:=hid hHAO
  have HAI:=hid hai
  clear q0 q1 q2 q3 hcb hf hj hfl2 hHFS hflE he1 hr0 hops hai hHAO
  gi_wp2
  obtain⟨W4,hW4⟩:∃W4,wr.alloc (.cells #[.string nm,.string fl,.int .i64 dl,.int .i64 fa] 106)=W4:=⟨_,rfl⟩
  have hb4:Below wr.heap.size wr W4:=by rw[←hW4];exact(Zg _ _).alloc (Zc _) _
  have bx4:W4.heap[wr.heap.size]?=some (.cells #[.string nm,.string fl,.int .i64 dl,.int .i64 fa] 106 (0,0)):=by rw[←hW4];exact Yt wr _
  rw[hW4]
  have ho4:=Zb bx4
  clear hW4 y0 y1 y2 y3 c0
  have HT4:=hid ((HTT.out.keep hb4).more (B':=W4.heap.size) hb4.size (Zc _))
  have HM4:=hid (HM.out.grow HT4.out.low)
  have HW4:=hid HM4.out.low
  have HB4:=hid bx4
  have hlw4:=HT4.out.low.size
  have hwl4:w.heap.size<W4.heap.size:=HT4.out.b0.lt
  have hml4:=HM4.out.lt
  obtain⟨⟨c0,c1,c2,c3⟩,cz⟩:=Yu bx4
  have cb:=HT4.out.b0.cell
  obtain⟨⟨z0,z1,z2,z3,z4,z5,z6,z7,z8⟩,zf⟩:=YN (show W4.heap[m]?=_ from HM4.out.box)
  have KB:=hid (show ∀W:World,Below W4.heap.size W4 W→(fun w'=>w'.cell? ⟨w.heap.size,0,none⟩=some (.pointer (some ⟨m,0,none⟩))∧w'.cell? ⟨m,0,none⟩=some (.slice an p.nodes.length cn)∧w'.cell? ⟨m,1,none⟩=some (.slice ai p.ins.length ci)∧w'.cell? ⟨m,2,none⟩=some (.slice af p.flows.length cf)∧w'.cell? ⟨m,3,none⟩=some (.slice (some ⟨bb,oo,none⟩) p.outs.length co)∧w'.cell? ⟨m,6,none⟩=some (.map (some mf))∧w'.cell? ⟨wr.heap.size,1,none⟩=some (.string fl)∧(Instr.lookup 159 (.map (some mf)) (.string fl) false).run Tryz.prog w'=.ok (.int .i64 (j:Int)) w') W from fun W hb=>by
   have h:=Xr QA (HM4.out.f.below hb) fl false
   have h2:=HMAPS.out.2.1 fl
   rw[HJ.out] at h2
   rw[h2] at h
   exact⟨(hb.cell (p:=⟨w.heap.size,0,none⟩) hwl4).trans cb,(hb.cell (p:=⟨m,0,none⟩) hml4).trans z0,(hb.cell (p:=⟨m,1,none⟩) hml4).trans z1,(hb.cell (p:=⟨m,2,none⟩) hml4).trans z2,(hb.cell (p:=⟨m,3,none⟩) hml4).trans z3,(hb.cell (p:=⟨m,6,none⟩) hml4).trans z6,(hb.cell (p:=⟨wr.heap.size,1,none⟩) ho4).trans c1,h⟩)
  clear hT hb4 bx4 c0 c1 c2 c3 cz cb z0 z1 z2 z3 z4 z5 z6 z7 z8 zf
  gi_cut [12] from 120 (fun s12 W=>Hid (∃X v,s12=.pointer (some ⟨X,0,none⟩)∧W4.heap.size≤X∧W.heap[X]?=some (.cells #[.int .i64 (src:Int),v] 75 (0,0))∧W.ownsRow W4.heap.size 135 3 v ops.length (Qd ops)∧Below W4.heap.size W4 W))
  case first =>
   refine wpIn_wide.2 ?_
   go_region_held3 (fun w'=>w'.cell? ⟨w.heap.size,0,none⟩=some (.pointer (some ⟨m,0,none⟩))∧w'.cell? ⟨m,0,none⟩=some (.slice an p.nodes.length cn)∧w'.cell? ⟨m,1,none⟩=some (.slice ai p.ins.length ci)∧w'.cell? ⟨m,2,none⟩=some (.slice af p.flows.length cf)∧w'.cell? ⟨m,3,none⟩=some (.slice (some ⟨bb,oo,none⟩) p.outs.length co)∧w'.cell? ⟨m,6,none⟩=some (.map (some mf))∧w'.cell? ⟨wr.heap.size,1,none⟩=some (.string fl)∧(Instr.lookup 159 (.map (some mf)) (.string fl) false).run Tryz.prog w'=.ok (.int .i64 (j:Int)) w') (exact KB.out _ bq) (first|(go_at_call 76;refine(HFS.out _ bq).mono ?_;rintro x w1 ⟨⟨ad2,cap2,rfl,hae⟩,hb1⟩;have hbA:Below W4.heap.size W4 w1:=bq;have hz1:=hbA.size;have HSP:=hid (show X9 W0 ⟨k1,nm1,n1,d1,args1,a1⟩ ad2 cap2 (dg j) from ⟨hae,HG2.out,by show(dg j).size+3*args1.sz≤500;omega,by show args1.sz<100;omega⟩);clear hae;first|(have hca:w1.heap[W4.heap.size]?=some (.cells #[.int .i64 0,.slice none 0 0] 75 (0,0)):=(hb1.block W4.heap.size (by simp)).trans (Yt W4.drew _);have HCA:=hid hca;clear hca)|skip)|(go_at_call 85;refine(HAO.out _ (HT4.out.low.trans ((show Below W4.heap.size W4 _ from bq).mono hlw4)) _ _ _ _ HSP.out _ HAI.out).mono ?_;rintro x w2 ⟨⟨v2,rfl,ho2⟩,hb2⟩;obtain⟨av2,cv2,rfl⟩:=YD ho2;have HO2:=hid ho2;clear ho2;(first|(have hca:w2.heap[W4.heap.size]?=some (.cells #[.int .i64 0,.slice none 0 0] 75 (0,0)):=(hb2.block _ (Zb HCA.out)).trans HCA.out;have HLT:=hid (Zb HCA.out);have hcc:=YG hca;obtain⟨⟨v0,v1⟩,vf⟩:=hcc;have HCB:=hid hca;clear hca)|(have hca:w2.heap[w1.heap.size]?=some (.cells #[.int .i64 0,.slice none 0 0] 75 (0,0)):=(hb2.block w1.heap.size (by simp)).trans (Yt w1 _);have hcc:=YG hca;obtain⟨⟨v0,v1⟩,vf⟩:=hcc;have HCB:=hid hca;clear hca)|skip);have hbB:Below W4.heap.size W4 w2:=bq;clear hbA;have hbA:=hbB;clear hbB;have hz2:=hbA.size))
   all_goals
    go_wp2_with fail
    gi_meet
    have hzA:=hbA.size
    first|exact⟨_,_,rfl,(by first|exact Zc _|assumption|(simp;done)|omega),Za0 HCB.out _ _,Y6 (Xw (Xw HO2.out (by first|exact HLT.out|(simp;done)|omega) _) (by first|exact HLT.out|(simp;done)|omega) _) (by first|exact Zc _|assumption|(simp;done)|(simp;omega)|omega),bq⟩|exact⟨_,_,rfl,(by first|exact Zc _|assumption|(simp;done)|omega),Yt _ _,Y6 (HO2.out.alloc _) (by first|exact Zc _|assumption|(simp;done)|(simp;omega)|omega),bq⟩
  obtain⟨XA,v2,rfl,hXA,hbx,hown,hbw⟩:=hcut.out
  obtain⟨W6,rfl⟩:∃W6:World,W6=wc:=⟨_,rfl⟩
  obtain⟨av2,cv2,rfl⟩:=YD hown
  clear hcut KB HFS HAO
  have hT2:=(HT4.out.keep hbw).more (B':=W6.heap.size) hbw.size (Zc _)
  have HT:=hid hT2
  have hHB:=hT2.hbs
  have hHS:=hT2.size
  have hHZ:=hT2.bsize
  have hz6:=hbw.size
  have HM6:=hid (HM4.out.grow hbw)
  have hbx4:=(hbw.block _ ho4).trans HB4.out
  have hlXA:=Zb hbx
  have hwl6:w.heap.size<W6.heap.size:=oq
  have hml6:m<W6.heap.size:=oq
  have hol6:wr.heap.size<W6.heap.size:=oq
  have hf2:w.heap.size+1+1<W6.heap.size:=oq
  obtain⟨⟨c0,c1,c2,c3⟩,cz⟩:=Yu hbx4
  obtain⟨⟨g0,g1⟩,gz⟩:=YG hbx
  have cb:=hT2.b0.cell
  obtain⟨⟨z0,z1,z2,z3,z4,z5,z6,z7,z8⟩,zf⟩:=YN (show W6.heap[m]?=_ from HM6.out.box)
  obtain⟨⟨ppo,ffo⟩,hpo⟩:∃r,Qk env fl=r:=⟨_,rfl⟩
  have hgc:(YT fl Lc).getD (.agg #[.int .i64 0,.int .i64 0])=.agg #[.int .i64 ppo,.int .i64 ffo]:=by
   rw[HCR.out fl]
   unfold Qk at hpo
   cases hen:env fl with
   | none=>rw[hen] at hpo;cases hpo;rfl
   | some c=>rw[hen] at hpo;cases hpo;rfl
  have HGC:=hid hgc
  have KS:=hid (show ∀W:World,Below W6.heap.size W6 W→(fun w'=>w'.cell? ⟨w.heap.size,0,none⟩=some (.pointer (some ⟨m,0,none⟩))∧w'.cell? ⟨m,4,none⟩=some (.map (some mc))∧w'.cell? ⟨wr.heap.size,1,none⟩=some (.string fl)∧w'.cell? ⟨wr.heap.size,2,none⟩=some (.int .i64 dl)∧w'.cell? ⟨XA,0,none⟩=some (.int .i64 (src:Int))∧w'.cell? ⟨XA,1,none⟩=some (.slice av2 ops.length cv2)∧(Instr.lookup 110 (.map (some mc)) (.string fl) false).run Tryz.prog w'=.ok (.agg #[.int .i64 ppo,.int .i64 ffo]) w') W from fun W hb=>by
   have h:=Xr Qo (HM6.out.c.below hb) fl false
   simp only[Bool.false_eq_true,if_false] at h
   exact⟨(hb.cell (p:=⟨w.heap.size,0,none⟩) hwl6).trans cb,(hb.cell (p:=⟨m,4,none⟩) hml6).trans z4,(hb.cell (p:=⟨wr.heap.size,1,none⟩) hol6).trans c1,(hb.cell (p:=⟨wr.heap.size,2,none⟩) hol6).trans c2,(hb.cell (p:=⟨XA,0,none⟩) hlXA).trans g0,(hb.cell (p:=⟨XA,1,none⟩) hlXA).trans g1,h.trans (by rw[←HGC.out])⟩)
  have HXBB:=hid (Zh hbx (Zh hT2.b0 (Zh hbx4 HM6.out.box)))
  have KY:=hid (show ∀W:World,Sty 77 W6 W→(fun w'=>w'.cell? ⟨w.heap.size,0,none⟩=some (.pointer (some ⟨m,0,none⟩))∧w'.cell? ⟨m,4,none⟩=some (.map (some mc))∧w'.cell? ⟨wr.heap.size,1,none⟩=some (.string fl)∧w'.cell? ⟨wr.heap.size,2,none⟩=some (.int .i64 dl)∧w'.cell? ⟨XA,0,none⟩=some (.int .i64 (src:Int))∧w'.cell? ⟨XA,1,none⟩=some (.slice av2 ops.length cv2)∧(Instr.lookup 110 (.map (some mc)) (.string fl) false).run Tryz.prog w'=.ok (.agg #[.int .i64 ppo,.int .i64 ffo]) w') W from fun W hs=>by
   obtain⟨⟨e0,e1⟩,_⟩:=YG (hs.cells HXBB.out.1 (by decide))
   obtain⟨⟨o0,o1,o2,o3⟩,_⟩:=Yu (hs.cells HXBB.out.2.2.1 (by decide))
   obtain⟨⟨n0,n1,n2,n3,n4,n5,n6,n7,n8⟩,_⟩:=YN (show W.heap[m]?=_ from hs.cells HXBB.out.2.2.2 (by decide))
   obtain⟨arr,ck,hm1,hm2⟩:=HM6.out.c
   have h:=Xr Qo (w:=W) (show YJ W mc Lc from ⟨arr,ck,hs _ _ hm1 (fun cur fz e=>by cases e),hm2⟩) fl false
   simp only[Bool.false_eq_true,if_false] at h
   exact⟨(show Boxed W w.heap.size _ _ from hs.cells HXBB.out.2.1 (by decide)).cell,n4,o1,o2,e0,e1,h.trans (by rw[←HGC.out])⟩)
  have hnw:w.heap.size+1+1≠w.heap.size:=oq
  have hnm:w.heap.size+1+1≠m:=oq
  have hnr:w.heap.size+1+1≠wr.heap.size:=by have:=HTT.out.size;have:=HTT.out.bsize;omega
  have hnX:w.heap.size+1+1≠XA:=by have:=HTT.out.size;have:=HTT.out.bsize;omega
  have hnc:mc≠w.heap.size+1+1:=by have:=HM6.out.ord;omega
  have KZ:=hid (show ∀(W:World) (v:Value),Sty 77 W6 W→(fun w'=>w'.cell? ⟨w.heap.size,0,none⟩=some (.pointer (some ⟨m,0,none⟩))∧w'.cell? ⟨m,4,none⟩=some (.map (some mc))∧w'.cell? ⟨wr.heap.size,1,none⟩=some (.string fl)∧w'.cell? ⟨wr.heap.size,2,none⟩=some (.int .i64 dl)∧w'.cell? ⟨XA,0,none⟩=some (.int .i64 (src:Int))∧w'.cell? ⟨XA,1,none⟩=some (.slice av2 ops.length cv2)∧(Instr.lookup 110 (.map (some mc)) (.string fl) false).run Tryz.prog w'=.ok (.agg #[.int .i64 ppo,.int .i64 ffo]) w') (W.setCell ⟨w.heap.size+1+1,3,none⟩ v) from fun W v hs=>by
   obtain⟨h0,h1,h2,h3,h4,h5,h6⟩:=KY.out W hs
   obtain⟨arr,ck,hm1,hm2⟩:=HM6.out.c
   have h:=Xr Qo (w:=W.setCell ⟨w.heap.size+1+1,3,none⟩ v) (show YJ (W.setCell ⟨w.heap.size+1+1,3,none⟩ v) mc Lc from ⟨arr,ck,(Zr _ _ _ _ (fun e=>hnc e)).trans (hs _ _ hm1 (fun cur fz e=>by cases e)),hm2⟩) fl false
   simp only[Bool.false_eq_true,if_false] at h
   have hf:=fun b o (hb:w.heap.size+1+1≠b)=>ZF W ⟨w.heap.size+1+1,3,none⟩ ⟨b,o,none⟩ v hb
   exact⟨(hf _ _ hnw).trans h0,(hf _ _ hnm).trans h1,(hf _ _ hnr).trans h2,(hf _ _ hnr).trans h3,(hf _ _ hnX).trans h4,(hf _ _ hnX).trans h5,h.trans (by rw[←HGC.out])⟩)
  obtain⟨⟨f0,f1,f2,f3⟩,ff⟩:=Yu hT2.b2
  obtain⟨cs,r1,r2,r3,r4⟩:=hT2.rL
  have hnl:((p.outs.take i).map (tlR p xIx fIx iIx env)).length=i:=by rw[Zo,Z9];omega
  rw[hnl] at r2
  have HNL:=hid hnl
  obtain⟨av,cv,rfl⟩:=YD r2
  have HR1:=hid r1
  have HR2:=hid r2
  have HR3:=hid r3
  have HR4:=hid r4
  obtain⟨i0,hi0,hi1,hi2,hi3'⟩:=info_parts zY
  have HIO:=hid (Zh hi0 (Zh hi1 (Zh hi2 hi3')))
  have HB6:=hid (Zg W6.heap.size W6)
  have HB6D:=hid (show Below W6.heap.size W6 W6.drew from(Zg _ _).drew)
  have HOW:=hid (Y6 hown (base':=bs) HT4.out.size)
  have HTL2:=hid (show tlR p xIx fIx iIx env ⟨nm,fl,dl,fa⟩=⟨ppo,ffo,src,ops,dl⟩ by rw[HTL.out,hpo])
  have HEND:=hid (show ∀(w4:World) (v':Value),FtI w m bs W6.heap.size Ds vI vN vT v' (p.ins.map (fun x=>(x.per,x.ph))) p.nodes ((YL p.flows 0).map (tkR p xIx fIx iIx nIx env)) ((p.outs.take i).map (tlR p xIx fIx iIx env)++[⟨ppo,ffo,src,ops,dl⟩]) w4→FtI w m bs w4.heap.size Ds vI vN vT v' (p.ins.map (fun x=>(x.per,x.ph))) p.nodes ((YL p.flows 0).map (tkR p xIx fIx iIx nIx env)) ((p.outs.take (i+1)).map (tlR p xIx fIx iIx env)) w4 from fun w4 v' h=>by
   rw[map_take (tlR p xIx fIx iIx env) hlto,HF1.out,HTL2.out]
   exact h.more h.bsize (Zc _))
  clear hT2 r1 r2 r3 r4 hi0 hi1 hi2 hi3' hnl hbx hown hbw hbx4 c0 c1 c2 c3 cz g0 g1 gz cb z0 z1 z2 z3 z4 z5 z6 z7 z8 zf hpo hgc
  gi_upto_region 24 with fail
  refine wpIn_wide.2 (wp_region_noPanic ?_)
  refine ZN (S:=fun w'=>w'.cell? ⟨w.heap.size,0,none⟩=some (.pointer (some ⟨m,0,none⟩))∧w'.cell? ⟨m,4,none⟩=some (.map (some mc))∧w'.cell? ⟨wr.heap.size,1,none⟩=some (.string fl)∧w'.cell? ⟨wr.heap.size,2,none⟩=some (.int .i64 dl)∧w'.cell? ⟨XA,0,none⟩=some (.int .i64 (src:Int))∧w'.cell? ⟨XA,1,none⟩=some (.slice av2 ops.length cv2)∧(Instr.lookup 110 (.map (some mc)) (.string fl) false).run Tryz.prog w'=.ok (.agg #[.int .i64 ppo,.int .i64 ffo]) w') kq (KS.out _ (Zg _ _).drew) (fun hHeld=>?_)
  refine tk 0 hHeld ?_
  refine tk 2 hHeld ?_
  refine tk 3 hHeld ?_
  refine tk 4 hHeld ?_
  refine tk 5 hHeld ?_
  refine tk 6 hHeld ?_
  refine tk 7 hHeld ?_
  refine tk 8 hHeld ?_
  refine tk 9 hHeld ?_
  refine tk 10 hHeld ?_
  refine tk 11 hHeld ?_
  refine tk 12 hHeld ?_
  refine rz 1 13 (fun K hK=>?_) fun K hK=>?_
  ·go_simp
   refine hK.out _ _ (fun hHeld=>?_) (by first|exact KS.out _ (Zg _ _).drew|exact KS.out _ (((Zg _ _).drew).alloc (Zc _) _))
   clear hK K
   refine ry 13 fun K hK=>?_
   go_simp
   refine hK.out _ _ (fun hHeld=>?_) (by exact KS.out _ (((Zg _ _).drew).alloc (Zc _) _))
   clear hK K
   refine ry 14 fun K hK=>?_
   (refine step_append_lies _ (by rfl) _ _ _ (by rfl) bs 77 i0 _ 5 56 Tryz.underlying33 HIO.out.1 HIO.out.2.1 HIO.out.2.2.1 HIO.out.2.2.2 rfl oq (.slice av i cv) i cs.flatten (by rfl) ((own_below HR2.out HB6D.out).alloc _) ⟨W6.heap.size,0,none⟩ 1 1 [.int .i64 ppo,.int .i64 ffo,.int .i64 (src:Int),.slice av2 ops.length cv2,.int .i64 dl] (by rfl) (by rfl) (World.news_of_block (Zy _ _)) (by simp[Value.oneCell']) oq (by unfold maxLen;omega) oq (by simp;have:=HB6.out.size;omega) (W6.heap.size+1) (by simp) ?_;intro gg cap4 w4 hown4 hgrow4 hat4 hlt4;have hAP:=HT.out.appL HB6D.out HNL.out HR1.out HR2.out HR3.out HR4.out (c:=[.int .i64 ppo,.int .i64 ffo,.int .i64 (src:Int),.slice av2 ops.length cv2,.int .i64 dl]) rfl (x:=⟨ppo,ffo,src,ops,dl⟩) (⟨_,rfl,HOW.out⟩) hown4 (show(W6.drew.alloc (.cells #[.int .i64 ppo,.int .i64 ffo,.int .i64 (src:Int),.slice av2 ops.length cv2,.int .i64 dl] 77)).grownBy w4 _ from hgrow4);obtain⟨⟨kz4,kf4⟩,hnx,hsty,hbl⟩:=hAP;have HNX:=hid hnx;have HSTY:=hid hsty;have HBL:=hid hbl;clear hnx hsty hbl hown4 hgrow4)
   refine hK.out _ _ (fun hHeld=>?_) (by exact KY.out _ HSTY.out)
   clear hK K
   refine tk 15 hHeld ?_
   refine ry 16 fun K hK=>?_
   go_simp
   refine hK.out _ _ (fun hHeld=>?_) (by exact KZ.out _ _ HSTY.out)
   clear hK K
   refine Zx kq ?_ _
   (refine NoPanic.normal ?_;gi_wp2;exact⟨hid ⟨i+1,_,by go_num,hlto,HEND.out _ _ HNX.out⟩,by simp[intOf];omega⟩)
  go_simp
  refine hK.out _ _ (fun hHeld=>?_) (by first|exact KS.out _ (Zg _ _).drew|exact KS.out _ (((Zg _ _).drew).alloc (Zc _) _))
  clear hK K
  refine ry 1 fun K hK=>?_
  go_simp
  refine hK.out _ _ (fun hHeld=>?_) (by exact KS.out _ (((Zg _ _).drew).alloc (Zc _) _))
  clear hK K
  refine ry 14 fun K hK=>?_
  (refine step_append_lies _ (by rfl) _ _ _ (by rfl) bs 77 i0 _ 5 56 Tryz.underlying33 HIO.out.1 HIO.out.2.1 HIO.out.2.2.1 HIO.out.2.2.2 rfl oq (.slice av i cv) i cs.flatten (by rfl) ((own_below HR2.out HB6D.out).alloc _) ⟨W6.heap.size,0,none⟩ 1 1 [.int .i64 ppo,.int .i64 ffo,.int .i64 (src:Int),.slice av2 ops.length cv2,.int .i64 dl] (by rfl) (by rfl) (World.news_of_block (Zy _ _)) (by simp[Value.oneCell']) oq (by unfold maxLen;omega) oq (by simp;have:=HB6.out.size;omega) (W6.heap.size+1) (by simp) ?_;intro gg cap4 w4 hown4 hgrow4 hat4 hlt4;have hAP:=HT.out.appL HB6D.out HNL.out HR1.out HR2.out HR3.out HR4.out (c:=[.int .i64 ppo,.int .i64 ffo,.int .i64 (src:Int),.slice av2 ops.length cv2,.int .i64 dl]) rfl (x:=⟨ppo,ffo,src,ops,dl⟩) (⟨_,rfl,HOW.out⟩) hown4 (show(W6.drew.alloc (.cells #[.int .i64 ppo,.int .i64 ffo,.int .i64 (src:Int),.slice av2 ops.length cv2,.int .i64 dl] 77)).grownBy w4 _ from hgrow4);obtain⟨⟨kz4,kf4⟩,hnx,hsty,hbl⟩:=hAP;have HNX:=hid hnx;have HSTY:=hid hsty;have HBL:=hid hbl;clear hnx hsty hbl hown4 hgrow4)
  refine hK.out _ _ (fun hHeld=>?_) (by exact KY.out _ HSTY.out)
  clear hK K
  refine tk 15 hHeld ?_
  refine ry 16 fun K hK=>?_
  go_simp
  refine hK.out _ _ (fun hHeld=>?_) (by exact KZ.out _ _ HSTY.out)
  clear hK K
  refine Zx kq ?_ _
  (refine NoPanic.normal ?_;gi_wp2;exact⟨hid ⟨i+1,_,by go_num,hlto,HEND.out _ _ HNX.out⟩,by simp[intOf];omega⟩)
 have hie:¬(i:Int)<(p.outs.length:Int):=oq
 have hie0:p.outs.take i=p.outs:=List.take_of_length_le oq
 rw[hie0] at hT
 obtain⟨aI,cI,rfl⟩:=hT.rI.form
 obtain⟨aN,cN,rfl⟩:=hT.rN.form
 obtain⟨aT,cT,rfl⟩:=hT.rT.form
 obtain⟨aL,cL,rfl⟩:=hT.rL.form
 simp only[Zo] at hT
 have hT3:=hid hT
 obtain⟨⟨f0,f1,f2,f3⟩,ff⟩:=Yu hT.b2
 obtain⟨⟨g0,g1,g2,g3⟩,gf⟩:=Yu hT.b1
 have hn21:¬w.heap.size+1=w.heap.size+1+1:=oq
 clear hT HTT HW
 gi_upto_region 26 with fail
 refine wpIn_wide.2 (wp_region_noPanic ?_)
 go_wp2_with fail
 refine NoPanic.normal ?_
 gi_wp2
 refine XY Ds _ ((((hT3.out.marks.set _ _).set _ _).set _ _).set _ _) (fun w' hk=>?_)
 have hres:=hk.same (w.heap.size+1) _ (Za2 hT3.out.b1 _ _ _ _) rfl
 obtain⟨⟨q0,q1,q2,q3⟩,qf⟩:=Yu hres
 have hlw9:=hT3.out.low.size
 have hst:YO 35 wr w':=by
  intro k cur t fz hk1 ht
  exact hk.same k _ ((YO.of_upon hT3.out.b1 (xk wr (w.heap.size+1) _ _ _ _)) k cur t fz hk1 ht) rfl
 have hbw:w.heap.size≤bs:=by have:=hT3.out.hbs;omega
 refine⟨.agg #[.slice aI p.ins.length cI,.slice aN p.nodes.length cN,.slice aT (YL p.flows 0).length cT,.slice aL p.outs.length cL],?_,⟨_,_,_,_,rfl,?_,?_,?_,?_⟩,?_⟩
 ·simp only[results,Tryz.results49];go_simp
 ·exact(hT3.out.rI.stays hst (by decide) (fun c x hc=>hc)).mono hbw (fun c x hc=>hc)
 ·exact(hT3.out.rN.stays hst (by decide) (fun c x hc=>hc.stays hst (by decide) (by decide))).mono hbw (fun c x hc=>hc)
 ·exact(hT3.out.rT.stays hst (by decide) (fun c x hc=>hc.stays hst (by decide) (by decide))).mono hbw (fun c x hc=>hc.mono hbw)
 ·exact(hT3.out.rL.stays hst (by decide) (fun c x hc=>hc.stays hst (by decide))).mono hbw (fun c x hc=>VD hc hbw)
 exact Below.trans (hT3.out.low.trans (Upon.below (xk wr (w.heap.size+1) _ _ _ _) hlw9 (ZV _ 1))) hk.below
end Go.Proofs.YtlhlcdjiafdoeaaGreatDoor.syn
