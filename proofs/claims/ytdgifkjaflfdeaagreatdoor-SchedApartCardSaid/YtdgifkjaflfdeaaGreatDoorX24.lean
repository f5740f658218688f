/- Parts of the proof. -/
import Derived.Test.YtdgifkjaflfdeaaGreatDoorX22
import Derived.Test.YtdgifkjaflfdeaaGreatDoorX23
set_option linter.all false
set_option maxRecDepth 100000
set_option maxHeartbeats 16000000
namespace Go.Proofs.YtdgifkjaflfdeaaGreatDoor.syn
open Tryz
open Go.RowKit Go.Shelf
def Sty(e:TypeId)(X Y:World):Prop:=∀(k:Nat)(o:Obj),X.1[k]?=some o->(∀cur fz,o≠.cells cur e fz)->Y.1[k]?=some o
theorem Sty.stays{e:TypeId}{X Y:World}(h:Sty e X Y):Y4 e X Y:=fun k cur t fz hk ht=>h k _ hk (fun cur' fz' he=>by injection he with h1 h2 h3;exact ht h2)
theorem Sty.of_below{e:TypeId}{X Y:World}(hb:Below X.1.size X Y):Sty e X Y:=fun k o hk _=>(hb.block k (Zb hk)).trans hk
theorem Sty.trans{e:TypeId}{X Y Z:World}(h:Sty e X Y)(g:Sty e Y Z):Sty e X Z:=fun k o hk ho=>g k o (h k o hk ho) ho
theorem Vg{wr j w4:World}{base:Nat}{e:TypeId}{size n:Nat}{v:Value}{xs:List Value}{ob:Obj}(f:wr.ownsRow base e size v n xs)(hb:Below wr.1.size wr j)(x:(j.alloc ob).grownBy w4 v.ownBlock) :
  Sty e wr w4/\Sty e j w4/\(∀B,B<=base->B<=wr.1.size->Below B wr w4)/\wr.1.size<=w4.1.size:=by
 obtain⟨_,y,z⟩:=UL f hb x;have key:Sty e j w4:=fun k o hk ho=>by
  have q:(j.alloc ob).1[k]?=some o:=(Za _ _ _ (Zb hk)).trans hk;refine(x.block k (Zb q) (fun he=>?_)).trans q;have m:=own_below f hb;rcases m.2 with ⟨rfl,_⟩|⟨g,cap,cur',rfl,hbg,hgg,_⟩
  .cases he
  simp[Value.ownBlock] at he;subst he;rw[hk] at hgg;injection hgg with hgg
  exact ho _ _ hgg
 exact⟨(Sty.of_below hb).trans key,key,y,z⟩
structure FtI (w:World) (m bs B:Nat) (Ds:List Nat) (vI vN vT vL:Value) (I:List (Int × Int)) (Nn:List ND) (T:List TK) (L:List TL) (X:World):Prop where
 low:Below w.1.size w X
 hbs:w.1.size+3<=bs
 size:bs<=B
 bsize:B<=X.1.size
 b0:Boxed X w.1.size 167 (.pointer (some ⟨m,0,none⟩))
 b1:X.1[w.1.size+1]?=some (.cells #[.slice none 0 0,.slice none 0 0,.slice none 0 0,.slice none 0 0] 35 (0,0))
 b2:X.1[w.1.size+1+1]?=some (.cells #[vI,vN,vT,vL] 35 (0,0))
 rI:XB xQ 50 2 X bs vI I
 rN:XB G1 113 10 X bs vN Nn
 rT:XB (JD bs) 53 4 X bs vT T
 rL:XB (JX bs) 94 5 X bs vL L
 marks:Mks w.1.size Ds X
 under:∀D∈Ds,D<B
section
variable {w:World} {m bs B:Nat} {Ds:List Nat} {vI vN vT vL:Value} {I:List (Int × Int)} {Nn:List ND} {T:List TK} {L:List TL} {X Y:World}
theorem Mks.sty{n₀:Nat}{e:TypeId}(h:Mks n₀ Ds X)(hs:Sty e X Y):Mks n₀ Ds Y :=
 ⟨fun D hD=>⟨(h.1 D hD).1,hs D _ (h.1 D hD).2 (fun _ _ he=>by cases he)⟩,h.2⟩
theorem Sty.cells{e t:TypeId}(hs:Sty e X Y){k:Nat}{cs:Array Value}{fz:Nat × Nat}(h:X.1[k]?=some (.cells cs t fz))(hne:t≠e):Y.1[k]?=some (.cells cs t fz):=hs.stays k cs t fz h hne
theorem FtI.over(h:FtI w m bs B Ds vI vN vT vL I Nn T L X)(hs:Sty 4 X Y)(hlow:Below w.1.size w Y)(hsz:X.1.size<=Y.1.size):FtI w m bs B Ds vI vN vT vL I Nn T L Y :=
 ⟨hlow,h.hbs,h.size,Zm h.bsize hsz,hs.cells h.b0 (by decide),hs.cells h.b1 (by decide),hs.cells h.b2 (by decide),h.rI.stays hs.stays (by decide) (fun c x hc=>hc),h.rN.stays hs.stays (by decide) (fun c x hc=>hc.stays hs.stays (by decide) (by decide)),
  h.rT.stays hs.stays (by decide) (fun c x hc=>hc.stays hs.stays (by decide) (by decide)),h.rL.stays hs.stays (by decide) (fun c x hc=>hc.stays hs.stays (by decide)),h.marks.sty hs,h.under⟩
theorem FtI.keep(h:FtI w m bs B Ds vI vN vT vL I Nn T L X)(hb:Below X.1.size X Y):FtI w m bs B Ds vI vN vT vL I Nn T L Y :=
 h.over (Sty.of_below hb) (h.low.trans (hb.mono h.low.size)) hb.size
theorem FtI.more(h:FtI w m bs B Ds vI vN vT vL I Nn T L X){B':Nat}(h1:B<=B')(h2:B'<=X.1.size):FtI w m bs B' Ds vI vN vT vL I Nn T L X :=
 ⟨h.low,h.hbs,Zm h.size h1,h2,h.b0,h.b1,h.b2,h.rI,h.rN,h.rT,h.rL,h.marks,fun D hD=>Zd (h.under D hD) h1⟩
theorem FtI.own{row:Option Nat}(h:FtI w m bs B Ds vI vN vT vL I Nn T L X)(j:X.grownBy Y row)(v:∀r,row=some r->B<=r/\∃o:Obj,X.1[r]?=some o/\o.isCells=false):FtI w m bs B Ds vI vN vT vL I Nn T L Y:=by
 have hb:=JJ j v h.bsize;have y:=h.hbs;have z:=h.size;have key:∀(k:Nat)(cur:Array Value)(t:TypeId)(fz:Nat × Nat),X.1[k]?=some (.cells cur t fz)->Y.1[k]?=some (.cells cur t fz):=fun k cur t fz hk=>by
  refine(j.block k (Zb hk) (fun e=>?_)).trans hk;obtain⟨_,o,q,f⟩:=v k e.symm;rw[hk] at q;cases q;cases f
 have g:Y4 4 X Y:=fun k cur t fz hk _=>key k cur t fz hk
 exact⟨h.low.trans (hb.mono oq),y,z,Zm h.bsize hb.size,key _ _ _ _ h.b0,key _ _ _ _ h.b1,key _ _ _ _ h.b2,h.rI.stays g (by decide) (fun c x f=>f),h.rN.stays g (by decide) (fun c x f=>f.stays g (by decide) (by decide)),
  h.rT.stays g (by decide) (fun c x f=>f.stays g (by decide) (by decide)),h.rL.stays g (by decide) (fun c x f=>f.stays g (by decide)),
  ⟨fun D hD=>⟨(h.marks.1 D hD).1,(hb.block D (h.under D hD)).trans (h.marks.1 D hD).2⟩,h.marks.2⟩,h.under⟩
theorem FtI.mark(h:FtI w m bs B Ds vI vN vT vL I Nn T L X){D:Nat}(j:B<=D)(f:X.1[D]?=some (.deferred (some []))):FtI w m bs X.1.size (D::Ds) vI vN vT vL I Nn T L X:=by
 have q:=h.size;have g:=h.hbs;refine⟨h.low,g,Zm h.size h.bsize,Zc _,h.b0,h.b1,h.b2,h.rI,h.rN,h.rT,h.rL,⟨fun D' hD'=>?_,List.nodup_cons.2 ⟨fun hm=>?_,h.marks.2⟩⟩,fun D' hD'=>?_⟩
 .rcases ZS.1 hD' with rfl|hm
  .exact⟨oq,f⟩
  exact h.marks.1 D' hm
 .have:=h.under D hm;omega
 rcases ZS.1 hD' with rfl|hm
 .exact Zb f
 have:=h.under D' hm;have:=h.bsize;omega
theorem gZ{w:World}{b:Nat}{f g j m:Value}{t:TypeId}(h:w.1[b]?=some (.cells #[f,g,j,m] t (0,0)))(u:Value) :
  (w.setCell ⟨b,0,none⟩ u).1[b]?=some (.cells #[u,g,j,m] t (0,0))/\(w.setCell ⟨b,1,none⟩ u).1[b]?=some (.cells #[f,u,j,m] t (0,0))/\(w.setCell ⟨b,2,none⟩ u).1[b]?=some (.cells #[f,g,u,m] t (0,0))/\(w.setCell ⟨b,3,none⟩ u).1[b]?=some (.cells #[f,g,j,u] t (0,0)):=by
 have q:=Zj _ b 0 _ t u h;have v:=Zj _ b 1 _ t u h;have x:=Zj _ b 2 _ t u h;have y:=Zj _ b 3 _ t u h;refine⟨?_,?_,?_,?_⟩
 .simpa only [sA,sB,sC] using q
 .simpa only [sA,sB,sC] using v
 .simpa only [sA,sB,sC] using x
 simpa only [sA,sB,sC] using y
theorem GR{e:TypeId}{w:World}{b o:Nat}{cur:Array Value}{fz:Nat × Nat}(h:w.1[b]?=some (.cells cur e fz))(u:Value):Sty e w (w.setCell ⟨b,o,none⟩ u):=fun k ob hk ho=>by
 refine(Zr _ _ _ _ (fun he=>?_)).trans hk;have he:k=b:=he;subst he;rw[h] at hk;injection hk with hk
 exact ho _ _ hk.symm
theorem FtI.appI(h:FtI w m bs B Ds vI vN vT vL I Nn T L X){F w4:World}(hb6:Below X.1.size X F){y:List (List Value)}{n:Nat}(O:I.length=n)(Y:y.length=I.length)(G:X.ownsRow bs 50 2 vI n y.flatten)(Z:∀c∈y,c.length=2)
  (r4:∀j (hj:j<I.length) (M:j<y.length),xQ X y[j] I[j]){c:List Value}(A:c.length=2){x:Int × Int}(V:xQ F c x){ob:Obj}{v':Value}(v:w4.ownsRow bs 50 2 v' (n+1) (y.flatten++c))(C:(F.alloc ob).grownBy w4 vI.ownBlock) :
  (w4.cell? ⟨w.1.size+1+1,0,none⟩=some vI/\w4.frozen? ⟨w.1.size+1+1,0,none⟩=false)/\FtI w m bs B Ds v' vN vT vL (I++[x]) Nn T L (w4.setCell ⟨w.1.size+1+1,0,none⟩ v')/\Sty 50 X w4/\Below w.1.size X w4:=by
 subst O;obtain⟨g,R,z,U⟩:=Vg G hb6 C;have H:=h.hbs;have J:=h.size;have h3:=h.bsize;have D:=h.low.size;have E:xQ w4 c x:=V;have hb2:=g.cells h.b2 (by decide);have f:Sty 35 w4 (w4.setCell ⟨w.1.size+1+1,0,none⟩ v'):=GR hb2 v';have q:∀k,k≠w.1.size+1+1->(w4.setCell ⟨w.1.size+1+1,0,none⟩ v').1[k]?=w4.1[k]?:=fun k hk=>Zr _ _ _ _ (fun e=>hk e)
 have hb4:Below w.1.size X w4:=z _ oq D;refine⟨⟨by simp[World.cell?,hb2],by simp[World.frozen?,hb2]⟩,⟨(h.low.trans hb4).setCell (p:=⟨w.1.size+1+1,0,none⟩) (by show w.1.size<=w.1.size+1+1;omega) _,H,J,?_,?_,?_,(gZ hb2 v').1,?_,?_,?_,?_,?_,h.under⟩,g,hb4⟩
 .have:=((Zg 0 w4).setCell (p:=⟨w.1.size+1+1,0,none⟩) (Zk _) v').size;omega
 .exact(q _ oq).trans (g.cells h.b0 (by decide))
 .exact(q _ oq).trans (g.cells h.b1 (by decide))
 .exact(Jn (w4:=w4) (Pe:=xQ) Y G Z r4 (fun c x hc=>hc) A E v).stays f.stays (by decide) (fun c x hc=>hc)
 .exact(h.rN.stays g.stays (by decide) (fun c x hc=>hc.stays g.stays (by decide) (by decide))).stays f.stays (by decide) (fun c x hc=>hc.stays f.stays (by decide) (by decide))
 .exact(h.rT.stays g.stays (by decide) (fun c x hc=>hc.stays g.stays (by decide) (by decide))).stays f.stays (by decide) (fun c x hc=>hc.stays f.stays (by decide) (by decide))
 .exact(h.rL.stays g.stays (by decide) (fun c x hc=>hc.stays g.stays (by decide))).stays f.stays (by decide) (fun c x hc=>hc.stays f.stays (by decide))
 exact(h.marks.sty g).sty f
theorem FtI.appN(h:FtI w m bs B Ds vI vN vT vL I Nn T L X){G w4:World}(hb6:Below X.1.size X G){y:List (List Value)}{n:Nat}(R:Nn.length=n)(Y:y.length=Nn.length)(H:X.ownsRow bs 113 10 vN n y.flatten)(Z:∀c∈y,c.length=10)
  (r4:∀j (hj:j<Nn.length) (O:j<y.length),G1 X y[j] Nn[j]){c:List Value}(A:c.length=10){x:ND}(V:G1 G c x){ob:Obj}{v':Value}(v:w4.ownsRow bs 113 10 v' (n+1) (y.flatten++c))(C:(G.alloc ob).grownBy w4 vN.ownBlock) :
  (w4.cell? ⟨w.1.size+1+1,1,none⟩=some vN/\w4.frozen? ⟨w.1.size+1+1,1,none⟩=false)/\FtI w m bs B Ds vI v' vT vL I (Nn++[x]) T L (w4.setCell ⟨w.1.size+1+1,1,none⟩ v')/\Sty 113 X w4/\Below w.1.size X w4:=by
 subst R;obtain⟨g,E,z,U⟩:=Vg H hb6 C;have J:=h.hbs;have M:=h.size;have h3:=h.bsize;have D:=h.low.size;have F:G1 w4 c x:=V.stays E.stays (by decide) (by decide);have hb2:=g.cells h.b2 (by decide);have f:Sty 35 w4 (w4.setCell ⟨w.1.size+1+1,1,none⟩ v'):=GR hb2 v';have q:∀k,k≠w.1.size+1+1->(w4.setCell ⟨w.1.size+1+1,1,none⟩ v').1[k]?=w4.1[k]?:=fun k hk=>Zr _ _ _ _ (fun e=>hk e)
 have hb4:Below w.1.size X w4:=z _ oq D;refine⟨⟨by simp[World.cell?,hb2],by simp[World.frozen?,hb2]⟩,⟨(h.low.trans hb4).setCell (p:=⟨w.1.size+1+1,1,none⟩) (by show w.1.size<=w.1.size+1+1;omega) _,J,M,?_,?_,?_,(gZ hb2 v').2.1,?_,?_,?_,?_,?_,h.under⟩,g,hb4⟩
 .have:=((Zg 0 w4).setCell (p:=⟨w.1.size+1+1,1,none⟩) (Zk _) v').size;omega
 .exact(q _ oq).trans (g.cells h.b0 (by decide))
 .exact(q _ oq).trans (g.cells h.b1 (by decide))
 .exact(h.rI.stays g.stays (by decide) (fun c x hc=>hc)).stays f.stays (by decide) (fun c x hc=>hc)
 .exact(Jn (w4:=w4) (Pe:=G1) Y H Z r4 (fun c x hc=>hc.stays g.stays (by decide) (by decide)) A F v).stays f.stays (by decide) (fun c x hc=>hc.stays f.stays (by decide) (by decide))
 .exact(h.rT.stays g.stays (by decide) (fun c x hc=>hc.stays g.stays (by decide) (by decide))).stays f.stays (by decide) (fun c x hc=>hc.stays f.stays (by decide) (by decide))
 .exact(h.rL.stays g.stays (by decide) (fun c x hc=>hc.stays g.stays (by decide))).stays f.stays (by decide) (fun c x hc=>hc.stays f.stays (by decide))
 exact(h.marks.sty g).sty f
theorem FtI.appT(h:FtI w m bs B Ds vI vN vT vL I Nn T L X){G w4:World}(hb6:Below X.1.size X G){y:List (List Value)}{n:Nat}(R:T.length=n)(Y:y.length=T.length)(H:X.ownsRow bs 53 4 vT n y.flatten)(Z:∀c∈y,c.length=4)
  (r4:∀j (hj:j<T.length) (O:j<y.length),(JD bs) X y[j] T[j]){c:List Value}(A:c.length=4){x:TK}(V:JD bs G c x){ob:Obj}{v':Value}(v:w4.ownsRow bs 53 4 v' (n+1) (y.flatten++c))(C:(G.alloc ob).grownBy w4 vT.ownBlock) :
  (w4.cell? ⟨w.1.size+1+1,2,none⟩=some vT/\w4.frozen? ⟨w.1.size+1+1,2,none⟩=false)/\FtI w m bs B Ds vI vN v' vL I Nn (T++[x]) L (w4.setCell ⟨w.1.size+1+1,2,none⟩ v')/\Sty 53 X w4/\Below w.1.size X w4:=by
 subst R;obtain⟨g,E,z,U⟩:=Vg H hb6 C;have J:=h.hbs;have M:=h.size;have h3:=h.bsize;have D:=h.low.size;have F:(JD bs) w4 c x:=V.stays E.stays (by decide) (by decide);have hb2:=g.cells h.b2 (by decide);have f:Sty 35 w4 (w4.setCell ⟨w.1.size+1+1,2,none⟩ v'):=GR hb2 v';have q:∀k,k≠w.1.size+1+1->(w4.setCell ⟨w.1.size+1+1,2,none⟩ v').1[k]?=w4.1[k]?:=fun k hk=>Zr _ _ _ _ (fun e=>hk e)
 have hb4:Below w.1.size X w4:=z _ oq D;refine⟨⟨by simp[World.cell?,hb2],by simp[World.frozen?,hb2]⟩,⟨(h.low.trans hb4).setCell (p:=⟨w.1.size+1+1,2,none⟩) (by show w.1.size<=w.1.size+1+1;omega) _,J,M,?_,?_,?_,(gZ hb2 v').2.2.1,?_,?_,?_,?_,?_,h.under⟩,g,hb4⟩
 .have:=((Zg 0 w4).setCell (p:=⟨w.1.size+1+1,2,none⟩) (Zk _) v').size;omega
 .exact(q _ oq).trans (g.cells h.b0 (by decide))
 .exact(q _ oq).trans (g.cells h.b1 (by decide))
 .exact(h.rI.stays g.stays (by decide) (fun c x hc=>hc)).stays f.stays (by decide) (fun c x hc=>hc)
 .exact(h.rN.stays g.stays (by decide) (fun c x hc=>hc.stays g.stays (by decide) (by decide))).stays f.stays (by decide) (fun c x hc=>hc.stays f.stays (by decide) (by decide))
 .exact(Jn (w4:=w4) (Pe:=(JD bs)) Y H Z r4 (fun c x hc=>hc.stays g.stays (by decide) (by decide)) A F v).stays f.stays (by decide) (fun c x hc=>hc.stays f.stays (by decide) (by decide))
 .exact(h.rL.stays g.stays (by decide) (fun c x hc=>hc.stays g.stays (by decide))).stays f.stays (by decide) (fun c x hc=>hc.stays f.stays (by decide))
 exact(h.marks.sty g).sty f
theorem FtI.appL(h:FtI w m bs B Ds vI vN vT vL I Nn T L X){G w4:World}(hb6:Below X.1.size X G){y:List (List Value)}{n:Nat}(R:L.length=n)(Y:y.length=L.length)(H:X.ownsRow bs 94 5 vL n y.flatten)(Z:∀c∈y,c.length=5)
  (r4:∀j (hj:j<L.length) (O:j<y.length),(JX bs) X y[j] L[j]){c:List Value}(A:c.length=5){x:TL}(V:JX bs G c x){ob:Obj}{v':Value}(v:w4.ownsRow bs 94 5 v' (n+1) (y.flatten++c))(C:(G.alloc ob).grownBy w4 vL.ownBlock) :
  (w4.cell? ⟨w.1.size+1+1,3,none⟩=some vL/\w4.frozen? ⟨w.1.size+1+1,3,none⟩=false)/\FtI w m bs B Ds vI vN vT v' I Nn T (L++[x]) (w4.setCell ⟨w.1.size+1+1,3,none⟩ v')/\Sty 94 X w4/\Below w.1.size X w4:=by
 subst R;obtain⟨g,E,z,U⟩:=Vg H hb6 C;have J:=h.hbs;have M:=h.size;have h3:=h.bsize;have D:=h.low.size;have F:(JX bs) w4 c x:=V.stays E.stays (by decide);have hb2:=g.cells h.b2 (by decide);have f:Sty 35 w4 (w4.setCell ⟨w.1.size+1+1,3,none⟩ v'):=GR hb2 v';have q:∀k,k≠w.1.size+1+1->(w4.setCell ⟨w.1.size+1+1,3,none⟩ v').1[k]?=w4.1[k]?:=fun k hk=>Zr _ _ _ _ (fun e=>hk e)
 have hb4:Below w.1.size X w4:=z _ oq D;refine⟨⟨by simp[World.cell?,hb2],by simp[World.frozen?,hb2]⟩,⟨(h.low.trans hb4).setCell (p:=⟨w.1.size+1+1,3,none⟩) (by show w.1.size<=w.1.size+1+1;omega) _,J,M,?_,?_,?_,(gZ hb2 v').2.2.2,?_,?_,?_,?_,?_,h.under⟩,g,hb4⟩
 .have:=((Zg 0 w4).setCell (p:=⟨w.1.size+1+1,3,none⟩) (Zk _) v').size;omega
 .exact(q _ oq).trans (g.cells h.b0 (by decide))
 .exact(q _ oq).trans (g.cells h.b1 (by decide))
 .exact(h.rI.stays g.stays (by decide) (fun c x hc=>hc)).stays f.stays (by decide) (fun c x hc=>hc)
 .exact(h.rN.stays g.stays (by decide) (fun c x hc=>hc.stays g.stays (by decide) (by decide))).stays f.stays (by decide) (fun c x hc=>hc.stays f.stays (by decide) (by decide))
 .exact(h.rT.stays g.stays (by decide) (fun c x hc=>hc.stays g.stays (by decide) (by decide))).stays f.stays (by decide) (fun c x hc=>hc.stays f.stays (by decide) (by decide))
 .exact(Jn (w4:=w4) (Pe:=(JX bs)) Y H Z r4 (fun c x hc=>hc.stays g.stays (by decide)) A F v).stays f.stays (by decide) (fun c x hc=>hc.stays f.stays (by decide))
 exact(h.marks.sty g).sty f
end
def flE(p:PG)(j:Nat):PE:=match p.flows[j]? with
 | some f=>f.e
 | none=>⟨0,ByteArray.empty,0,0,.nil,0⟩
noncomputable def tkR(p:PG)(xIx fIx iIx nIx:IE)(env:Env)(s:PE × ByteArray):TK :=
 ⟨(((nIx s.1.nm).getD 0:Nat):Int),(UV (Xt env) s.1).1,(UV (Xt env) s.1).2,(XC s.1.args s.2 0).map (fun k=>((JO p xIx fIx iIx k.1 k.2).1,(JO p xIx fIx iIx k.1 k.2).2.reverse))⟩
noncomputable def tlR(p:PG)(xIx fIx iIx:IE)(env:Env)(o:OU):TL :=
 ⟨(Xt env o.fl).1,(Xt env o.fl).2,(JO p xIx fIx iIx (flE p ((fIx o.fl).getD 0)) (dg ((fIx o.fl).getD 0))).1,(JO p xIx fIx iIx (flE p ((fIx o.fl).getD 0)) (dg ((fIx o.fl).getD 0))).2.reverse,o.dl⟩
attribute [local go_sem] ZU
theorem vR{W0 w:World}(l:List ByteArray)(g:OA)(cap:Nat)(h:Row xV 1 W0 l g)(A:l.length<=1000)(y:Below W0.1.size W0 w) :
  Calls prog 145 #[.slice g l.length cap] w fun x w'=>(∃pa pc,x=.returned (.slice pa l.length pc)/\w'.ownsRow w.1.size 9 1 (.slice pa l.length pc) l.length (l.map Value.string))/\Below w.1.size w w':=by
 cases g with
 | none =>
  have m:l.length=0:=by
   rcases h with rfl|⟨b,o,h,_⟩
   .rfl
   cases h
  obtain rfl:l=[]:=Ye m;refine(Tryz.slices_Clone_string_nil 0 cap w).mono ?_;rintro x w' ⟨rfl,rfl⟩;exact⟨⟨_,_,rfl,Yg _ _ _ _⟩,Zg _ _⟩
 | some a =>
  by_cases v:l=[]
  .subst v;refine(Tryz.slices_Clone_string_zero a cap w).mono ?_;rintro x w' ⟨z,rfl,f,_,hb⟩;obtain⟨pa,pc,rfl⟩:=YC f;exact⟨⟨pa,pc,rfl,f⟩,hb⟩
  rcases h with h|⟨b,o,h,hb,hc⟩
  .exact absurd h v
  cases h
  refine(Tryz.slices_Clone_string b o l.length cap l w (Zc _) oq (fun j hj=>?_)).mono ?_
  .have q:=(hc j hj).1;rw[Z9] at q;rw[y.cell (p:=⟨b,o+j,none⟩) hb,q,Zf,Ze hj];rfl
  rintro x w' ⟨z,rfl,f,_,hb⟩;obtain⟨pa,pc,rfl⟩:=YC f;rw[ZT] at f;exact⟨⟨pa,pc,rfl,f⟩,hb⟩
theorem UQ{w:World}{b:Nat}{f g j m q v x y z A:Value}{t:TypeId}(h:w.1[b]?=some (.cells #[f,g,j,m,q,v,x,y,z,A] t (0,0))) :
  (w.cell? ⟨b,0,none⟩=some f/\w.cell? ⟨b,1,none⟩=some g/\w.cell? ⟨b,2,none⟩=some j/\w.cell? ⟨b,3,none⟩=some m/\w.cell? ⟨b,4,none⟩=some q/\w.cell? ⟨b,5,none⟩=some v/\w.cell? ⟨b,6,none⟩=some x/\w.cell? ⟨b,7,none⟩=some y/\w.cell? ⟨b,8,none⟩=some z/\w.cell? ⟨b,9,none⟩=some A)/\∀o,w.frozen? ⟨b,o,none⟩=false:=by
 refine⟨⟨?_,?_,?_,?_,?_,?_,?_,?_,?_,?_⟩,?_⟩
 all_goals first|(intro o;simp[World.frozen?,h])|simp[World.cell?,h]
theorem Zfi{w:World}{b:Nat}{f J g L M O R T U j:Value}{t:TypeId}(h:w.1[b]?=some (.cells #[f,J,g,L,M,O,R,T,U,j] t (0,0)))(u1 u3 u4 u5 u6 u7 u8:Value) :
  (((((((w.setCell ⟨b,1,none⟩ u1).setCell ⟨b,3,none⟩ u3).setCell ⟨b,4,none⟩ u4).setCell ⟨b,5,none⟩ u5).setCell ⟨b,6,none⟩ u6).setCell ⟨b,7,none⟩ u7).setCell ⟨b,8,none⟩ u8).1[b]?=some (.cells #[f,u1,g,u3,u4,u5,u6,u7,u8,j] t (0,0)) /\
  (((((((w.setCell ⟨b,3,none⟩ u3).setCell ⟨b,4,none⟩ u4).setCell ⟨b,5,none⟩ u5).setCell ⟨b,6,none⟩ u6).setCell ⟨b,7,none⟩ u7).setCell ⟨b,8,none⟩ u8).setCell ⟨b,1,none⟩ u1).1[b]?=some (.cells #[f,u1,g,u3,u4,u5,u6,u7,u8,j] t (0,0)):=by
 have C:=Zj _ b 1 _ t u1 h;have D:=Zj _ b 3 _ t u3 C;have E:=Zj _ b 4 _ t u4 D;have F:=Zj _ b 5 _ t u5 E;have G:=Zj _ b 6 _ t u6 F;have H:=Zj _ b 7 _ t u7 G;have I:=Zj _ b 8 _ t u8 H;have q:=Zj _ b 3 _ t u3 h;have v:=Zj _ b 4 _ t u4 q;have x:=Zj _ b 5 _ t u5 v;have y:=Zj _ b 6 _ t u6 x;have z:=Zj _ b 7 _ t u7 y;have A:=Zj _ b 8 _ t u8 z;have m:=Zj _ b 1 _ t u1 A;exact⟨by simpa only [sA,sB,sC] using I,by simpa only [sA,sB,sC] using m⟩
def slot(t:Array Value)(k:Nat):Value:=t.getD k undef
theorem Zbz{t:Array Value}(h:t.size=120):t=#[slot t 0,slot t 1,slot t 2,slot t 3,slot t 4,slot t 5,slot t 6,slot t 7,slot t 8,slot t 9,slot t 10,slot t 11,slot t 12,slot t 13,slot t 14,slot t 15,slot t 16,slot t 17,slot t 18,slot t 19,slot t 20,slot t 21,slot t 22,slot t 23,slot t 24,slot t 25,slot t 26,slot t 27,slot t 28,slot t 29,slot t 30,slot t 31,slot t 32,slot t 33,slot t 34,slot t 35,slot t 36,slot t 37,slot t 38,slot t 39,slot t 40,slot t 41,slot t 42,slot t 43,slot t 44,slot t 45,slot t 46,slot t 47,slot t 48,slot t 49,slot t 50,slot t 51,slot t 52,slot t 53,slot t 54,slot t 55,slot t 56,slot t 57,slot t 58,slot t 59,slot t 60,slot t 61,slot t 62,slot t 63,slot t 64,slot t 65,slot t 66,slot t 67,slot t 68,slot t 69,slot t 70,slot t 71,slot t 72,slot t 73,slot t 74,slot t 75,slot t 76,slot t 77,slot t 78,slot t 79,slot t 80,slot t 81,slot t 82,slot t 83,slot t 84,slot t 85,slot t 86,slot t 87,slot t 88,slot t 89,slot t 90,slot t 91,slot t 92,slot t 93,slot t 94,slot t 95,slot t 96,slot t 97,slot t 98,slot t 99,slot t 100,slot t 101,slot t 102,slot t 103,slot t 104,slot t 105,slot t 106,slot t 107,slot t 108,slot t 109,slot t 110,slot t 111,slot t 112,slot t 113,slot t 114,slot t 115,slot t 116,slot t 117,slot t 118,slot t 119]:=by
 have f:t.toList=(List.range 120).map (slot t):=by
  refine List.ext_getElem (by simp[h]) (fun i hi1 hi2=>?_);rw[List.getElem_map,List.getElem_range];unfold slot;have hi:i<t.size:=by simpa using hi1
  simp[Array.getD,hi]
 have g:(List.range 120).map (slot t)=[slot t 0,slot t 1,slot t 2,slot t 3,slot t 4,slot t 5,slot t 6,slot t 7,slot t 8,slot t 9,slot t 10,slot t 11,slot t 12,slot t 13,slot t 14,slot t 15,slot t 16,slot t 17,slot t 18,slot t 19,slot t 20,slot t 21,slot t 22,slot t 23,slot t 24,slot t 25,slot t 26,slot t 27,slot t 28,slot t 29,slot t 30,slot t 31,slot t 32,slot t 33,slot t 34,slot t 35,slot t 36,slot t 37,slot t 38,slot t 39,slot t 40,slot t 41,slot t 42,slot t 43,slot t 44,slot t 45,slot t 46,slot t 47,slot t 48,slot t 49,slot t 50,slot t 51,slot t 52,slot t 53,slot t 54,slot t 55,slot t 56,slot t 57,slot t 58,slot t 59,slot t 60,slot t 61,slot t 62,slot t 63,slot t 64,slot t 65,slot t 66,slot t 67,slot t 68,slot t 69,slot t 70,slot t 71,slot t 72,slot t 73,slot t 74,slot t 75,slot t 76,slot t 77,slot t 78,slot t 79,slot t 80,slot t 81,slot t 82,slot t 83,slot t 84,slot t 85,slot t 86,slot t 87,slot t 88,slot t 89,slot t 90,slot t 91,slot t 92,slot t 93,slot t 94,slot t 95,slot t 96,slot t 97,slot t 98,slot t 99,slot t 100,slot t 101,slot t 102,slot t 103,slot t 104,slot t 105,slot t 106,slot t 107,slot t 108,slot t 109,slot t 110,slot t 111,slot t 112,slot t 113,slot t 114,slot t 115,slot t 116,slot t 117,slot t 118,slot t 119]:=rfl;rw[g] at f;exact Array.ext' f
theorem Zem{p:PG}{xIx f iIx:IE}(v:∀e:PE,YF e=true->Xe p.flows p.ins.length xIx f iIx e){e:PE}{g:ByteArray}(hex:YF e=true) :
  ∀i c,e.args.at i=some c->∀h:i<((XC e.args g 0).map (fun k=>((JO p xIx f iIx k.1 k.2).1,(JO p xIx f iIx k.1 k.2).2.reverse))).length,kJ p xIx f iIx c (g++⟨#[47]⟩++dg i) ((XC e.args g 0).map (fun k=>((JO p xIx f iIx k.1 k.2).1,(JO p xIx f iIx k.1 k.2).2.reverse)))[i]:=by
 intro i c j h;have m:=EF e.args g 0 i c j;rw[ZE] at m;obtain⟨y,q⟩:=ZB.1 m;obtain⟨N,x⟩:=JZ (v c (VB hex j)) (g++⟨#[47]⟩++dg i);rw[List.getElem_map,q];exact⟨N,(JO p xIx f iIx c (g++⟨#[47]⟩++dg i)).2,x,rfl⟩
theorem Uw{base base':Nat}{w:World}{c:List Value}{x:TL}(h:JX base w c x)(hb:base'<=base):JX base' w c x:=by
 obtain⟨v,f,g⟩:=h;exact⟨v,f,Xq g hb⟩
theorem map_take{α β:Type}(f:α->β){l:List α}{i:Nat}(h:i<l.length):(l.take (i+1)).map f=(l.take i).map f++[f l[i]]:=by
 rw[Zw h,ZV];rfl
theorem Zb9{W0 w:World}(p:PG)(an ai af ao:OA)(cn ci cf co:Nat)(hp:AP W0 p an ai af ao cn ci cf co)(gv:JW p)(mc mi mf mn mx m:Nat)(Lc Li Lf Ln Lx:List (ByteArray × Value))(hM:Mkr W0 p an ai af ao cn ci cf co mc mi mf mn mx m Lc Li Lf Ln Lx w)
  (xIx F iIx am:IE)(hX:XF Lx xIx)(hF:XF Lf F)(hI:XF Li iIx)(hN:XF Ln am)(cm:∀k j,xIx k=some j->j<=1000)(env:Env)(hC:XW Lc env)(hE:∀e:PE,YF e=true->Xe p.flows p.ins.length xIx F iIx e)(ki:∀x∈p.nodes,x.ps.length<=1000)(lu:(YN p.flows 0).length<=30)
  (gc:∀o∈p.outs,∃j,F o.fl=some j/\j<p.flows.length) :
  Calls prog 84 #[.pointer (some ⟨m,0,none⟩)] w fun x w'=>(∃vI vN vT vL,x=.returned (.agg #[vI,vN,vT,vL])/\XB xQ 50 2 w' w.1.size vI (p.ins.map (fun x=>(x.per,x.ph)))/\XB G1 113 10 w' w.1.size vN p.nodes /\
   XB (JD w.1.size) 53 4 w' w.1.size vT ((YN p.flows 0).map (tkR p xIx F iIx am env))/\XB (JX w.1.size) 94 5 w' w.1.size vL (p.outs.map (tlR p xIx F iIx env)))/\Below w.1.size w w':=by
 have gr:=hM.lt;have fn:=hM.low.size;have ml:=gv.lens;have lj:m<w.1.size+1:=oq;have lk:m<w.1.size+1+1:=oq;have ll:m<w.1.size+1+1+1:=oq;have HM:=hid hM;have HP:=hid hp;have cp:=hid gv;have J:=hid (Zh hX (Zh hF (Zh hI (Zh hN cm))));have jc:=hid hC;have HE:=hid hE;have lc:=hid ki;have jj:=hid gc;obtain⟨⟨x0,x1,x2,x3,x4,x5,x6,x7,x8⟩,xf⟩:=Y1 (show w.1[m]?=_ from hM.box);clear hM hp gv hX hF hI hN cm hE hC ki gc;refine(Zu (n:=6)).1 ?_;refine callsIn_of_wp_marks func84 rfl trivial ?_ rfl;simp only[ntmps84,ZJ,Zp,Zx,Nat.reduceAdd,Nat.reduceSub,ZG,ZF,ZM,ZK,ZN,ZD];gi_wp2;obtain⟨W1,cu⟩:∃W1,((w.alloc (.cells #[.pointer (some ⟨m,0,none⟩)] 167)).alloc (.cells #[.slice none 0 0,.slice none 0 0,.slice none 0 0,.slice none 0 0] 35)).alloc (.cells #[.slice none 0 0,.slice none 0 0,.slice none 0 0,.slice none 0 0] 35)=W1:=⟨_,rfl⟩;rw[cu];obtain⟨bs,jw⟩:=ez W1.1.size;have lo:W1.1.size=w.1.size+3:=by rw[<-cu];simp
 have jg:=hid (show FtI w m bs W1.1.size [] (.slice none 0 0) (.slice none 0 0) (.slice none 0 0) (.slice none 0 0) [] [] [] [] W1 from ⟨by rw[<-cu];exact bq,oq,oq,Zc _,by rw[<-cu];exact((Boxed.new _ _ _).alloc _).alloc _,
  by rw[<-cu];have:=(Za _ (.cells #[.slice none 0 0,.slice none 0 0,.slice none 0 0,.slice none 0 0] 35) _ (by simp)).trans (Yx (w.alloc (.cells #[.pointer (some ⟨m,0,none⟩)] 167)) (.cells #[.slice none 0 0,.slice none 0 0,.slice none 0 0,.slice none 0 0] 35));simpa using this,
  by rw[<-cu];have:=Yx ((w.alloc (.cells #[.pointer (some ⟨m,0,none⟩)] 167)).alloc (.cells #[.slice none 0 0,.slice none 0 0,.slice none 0 0,.slice none 0 0] 35)) (.cells #[.slice none 0 0,.slice none 0 0,.slice none 0 0,.slice none 0 0] 35);simpa using this,
  XB.nil,XB.nil,XB.nil,XB.nil,⟨by simp,List.nodup_nil⟩,by simp⟩)
 clear lj lk ll cu jw lo x0 x1 x2 x3 x4 x5 x6 x7 x8 xf;gi_loopw [19] (fun s19 X=>Hid (∃(i:Nat)(vI:Value),s19=.int .i64 (i:Int)/\i<=p.ins.length/\FtI w m bs X.1.size [] vI (.slice none 0 0) (.slice none 0 0) (.slice none 0 0) ((p.ins.take i).map (fun x=>(x.per,x.ph))) [] [] [] X)) (fun s19 _=>p.ins.length-(intOf s19).toNat)
 case atStart=>exact⟨0,_,rfl,Zk _,jg.o⟩
 obtain⟨i,vI,rfl,hi,hT⟩:=hrel.o;clear hrel jg;obtain⟨ma,rfl⟩:=ey W1;have ah:=hid hT;have HW:=hid (HM.o.low.trans (hT.low.mono fn));have c0:=hT.b0.cell;by_cases al:i<p.ins.length
 .have ce:(i:Int)<(p.ins.length:Int):=oq;obtain⟨bb,oo,rfl,ap,aq⟩:=HP.o.ins.at al;have ka:=aq.later HW.o ap;have jv:bb<wr.1.size:=Zd ap HW.o.size;obtain⟨⟨nm,per,ph,fa⟩,hf⟩:=ez (p.ins[i]);rw[hf] at ka;obtain⟨y0,y1,y2,y3,_⟩:=ka;simp only at y0 y1 y2 y3;have dz:=hid hf;clear aq hf;gi_wp2;obtain⟨W2,fi⟩:=ez (wr.alloc (.cells #[.string nm,.int .i64 per,.int .i64 ph,.int .i64 fa] 153));have hb2:Below wr.1.size wr W2:=by rw[<-fi];exact(Zg _ _).alloc (Zc _) _
  have ee:W2.1[wr.1.size]?=some (.cells #[.string nm,.int .i64 per,.int .i64 ph,.int .i64 fa] 153 (0,0)):=by rw[<-fi];exact Yx wr _
  rw[fi];have fm:=Zb ee;clear fi y0 y1 y2 y3 c0;have G:=(ah.o.keep hb2).more (B':=W2.1.size) hb2.size (Zc _);have HT:=hid G;have jr:=G.hbs;have js:=G.size;obtain⟨⟨c0,c1,c2,c3⟩,cz⟩:=Yy ee;obtain⟨⟨f0,f1,f2,f3⟩,ff⟩:=Yy G.b2;obtain⟨cs,r1,r2,r3,r4⟩:=G.rI;have bf:((p.ins.take i).map (fun x:IN=>(x.per,x.ph))).length=i:=by rw[Zo,Yc];omega
  rw[bf] at r2;have bj:=hid bf;obtain⟨av,cv,rfl⟩:=YC r2;have bk:=hid r1;have O:=hid r2;have bl:=hid r3;have bm:=hid r4;obtain⟨i0,bc,bd,cd,du⟩:=info_parts ut;have A:=hid (Zh bc (Zh bd (Zh cd du)));have gj:=hid G.b2;have cc:w.1.size+1+1<W2.1.size:=oq;have la:=hid (fun w'=>VG (w:=w') nm per ph fa);clear hT G r1 r2 r3 r4 bc bd cd du bf hb2 ee;refine wpIn_wide.2 (wp_region_noPanic ?_);go_region_law (first|(refine step_append_lies _ (by rfl) _ _ _ (by rfl) bs 50 i0 _ 2 16 underlying31 A.o.1 A.o.2.1 A.o.2.2.1 A.o.2.2.2 rfl oq (.slice av i cv) i cs.flatten (by rfl) ((own_below O.o HB6.o).alloc _) ⟨w6.1.size,0,none⟩ 1 1 [.int .i64 per,.int .i64 ph] (by rfl) (by rfl) (World.news_of_block (ZA _ _)) (by simp[Value.oneCell']) oq (by unfold maxLen;omega) oq (by simp;have:=HB6.o.size;omega) (w6.1.size+1) (by simp) ?_;intro gg bt w4 z q bu bv;have ak:=HT.o.appI HB6.o bj.o bk.o O.o bl.o bm.o (c:=[.int .i64 per,.int .i64 ph]) rfl (x:=(per,ph)) (rfl) z q;obtain⟨⟨dy,dx⟩,H,C,L⟩:=ak;have ag:=hid H;have E:=hid C;have bw:=hid L;clear H C L z q)|(go_simp;go_at_call 141;refine(la.o _).mono ?_;rintro x w6 ⟨rfl,hb6⟩;have I:Below W2.1.size W2 w6:=bq;obtain⟨⟨t0,t1,t2,t3⟩,tf⟩:=Yy ((I.block _ cc).trans gj.o);have HB6:=hid I;have fc:w.1.size+1+1<w6.1.size:=Zd cc I.size;have gh:¬w.1.size+1+1=w6.1.size:=Nat.ne_of_lt fc;clear hb6 I))
  all_goals
   refine NoPanic.normal ?_;gi_wp2;have hz:=ag.o;have en:=map_take (fun x:IN=>(x.per,x.ph)) al;rw[dz.o] at en;rw[<-en] at hz;exact⟨hid ⟨i+1,_,by go_num,al,hz.more hz.bsize (Zc _)⟩,by simp[intOf];omega⟩
 have be:i=p.ins.length:=oq;have ce:¬(i:Int)<(p.ins.length:Int):=oq;subst be;rw[ZT] at hT;obtain⟨W2,rfl⟩:=ey wr;have gm:=hid hT;clear hT ah;obtain⟨⟨x0,x1,x2,x3,x4,x5,x6,x7,x8⟩,xf⟩:=Y1 (show W2.1[m]?=_ from(gm.o.low.block m gr).trans HM.o.box);gi_wp2;gi_loopw [37] (fun s37 X=>Hid (∃(i:Nat)(vN:Value),s37=.int .i64 (i:Int)/\i<=p.nodes.length/\FtI w m bs X.1.size [] vI vN (.slice none 0 0) (.slice none 0 0) (p.ins.map (fun x=>(x.per,x.ph))) (p.nodes.take i) [] [] X)) (fun s37 _=>p.nodes.length-(intOf s37).toNat)
 case atStart=>exact⟨0,_,rfl,Zk _,gm.o⟩
 obtain⟨i,vN,rfl,cd,hT⟩:=hrel.o;clear hrel gm x0 x1 x2 x3 x4 x5 x6 x7 x8 xf c0 ce HW;have ah:=hid hT;have HW:=hid (HM.o.low.trans (hT.low.mono fn));have c0:=hT.b0.cell;by_cases al:i<p.nodes.length
 .have ce:(i:Int)<(p.nodes.length:Int):=oq;have gw:=lc.o _ (Zi al);have aw:=(cp.o.nodes _ (Zi al)).2;obtain⟨bb,oo,rfl,ap,aq⟩:=HP.o.nodes.at al;have jv:bb<wr.1.size:=Zd ap HW.o.size;have T:=fun o=>HW.o.cell (p:=⟨bb,o,none⟩) ap
  obtain⟨⟨nm,ps,bud,⟨k2,U,n2,d2,g,a2⟩,fa⟩,hf⟩:=ez (p.nodes[i]);rw[hf] at aq gw aw;obtain⟨q0,⟨pad,fd,q1,_,_,et⟩,q2,⟨go,eg,q3,q4,q5,q6,q7,q8,ei⟩,q9,_⟩:=aq;simp only at q0 q1 q2 q3 q4 q5 q6 q7 q8 q9 gw aw et;unfold PE.sz at aw;simp only at aw;have y0:=(T _).trans q0;have y1:=(T _).trans q1;have y2:=(T _).trans q2;have y3:=(T _).trans q3;have y4:=(T _).trans q4;have y5:=(T _).trans q5;have y6:=(T _).trans q6;have y7:=(T _).trans q7;have y8:=(T _).trans q8;have y9:=(T _).trans q9;have dz:=hid hf;have jd:=hid (fun(w':World) (hb:Below W0.1.size W0 w')=>vR (w:=w') ps pad fd et gw hb);have fe:=hid (fun(w':World) (hb:Below W0.1.size W0 w')=>vS _ ⟨k2,U,n2,d2,g,a2⟩ (ZX _) (by show g.sz<=900;omega) w' go eg ei hb);unfold ev at fe;simp only at fe;clear q0 q1 q2 q3 q4 q5 q6 q7 q8 q9 T hf et ei;gi_wp2;obtain⟨V,ca⟩:∃V,wr.alloc (.cells #[.string nm,.slice pad ps.length fd,.int .i64 bud,.int .i64 k2,.string U,.int .i64 n2,.int .i64 d2,.slice go g.len eg,.int .i64 a2,.int .i64 fa] 113)=V:=⟨_,rfl⟩;have hb4:Below wr.1.size wr V:=by rw[<-ca];exact(Zg _ _).alloc (Zc _) _
  have bz:V.1[wr.1.size]?=some (.cells #[.string nm,.slice pad ps.length fd,.int .i64 bud,.int .i64 k2,.string U,.int .i64 n2,.int .i64 d2,.slice go g.len eg,.int .i64 a2,.int .i64 fa] 113 (0,0)):=by rw[<-ca];exact Yx wr _
  rw[ca];have dw:=Zb bz;clear ca y0 y1 y2 y3 y4 y5 y6 y7 y8 y9 c0;have bx:=hid ((ah.o.keep hb4).more (B':=V.1.size) hb4.size (Zc _));have HW4:=hid (HW.o.trans (hb4.mono HW.o.size));have HB4:=hid bz;obtain⟨⟨c0,c1,c2,c3,c4,c5,c6,c7,c8,c9⟩,cz⟩:=UQ bz;have fq:=hid hb4;have kk:=hb4.size;clear hT hb4 bz;gi_cut [7] from 120 (fun s7 X=>Hid (s7=.pointer (some ⟨wr.1.size,0,none⟩)/\∃pa pc ea ec,X.1[wr.1.size]?=some (.cells #[.string nm,.slice pa ps.length pc,.int .i64 bud,.int .i64 k2,.string U,.int .i64 n2,.int .i64 d2,.slice ea g.len ec,.int .i64 a2,.int .i64 fa] 113 (0,0))/\Below wr.1.size wr X/\X.ownsRow 0 9 1 (.slice pa ps.length pc) ps.length (ps.map Value.string)/\g.len<=ec/\SlA X (fun _=>True) g ea))
  case first =>
   refine wpIn_wide.2 (wp_region_noPanic ?_);go_region_law (first|(go_simp;first|(go_at_call 145;refine(jd.o _ bq).mono ?_;rintro x w5 ⟨⟨pa,pc,rfl,cl⟩,hb5⟩;have jm:=hid cl;clear cl;have hbA:Below V.1.size V w5:=bq;have ku:=hbA.size;obtain⟨⟨t0,t1,t2,t3,t4,t5,t6,t7,t8,t9⟩,tz⟩:=UQ ((hbA.block _ dw).trans HB4.o);clear hb5)|(go_at_call 146;refine(fe.o _ (HW4.o.trans (hbA.mono HW4.o.size))).mono ?_;rintro x w6 ⟨⟨ea,ec,rfl,fv,ge⟩,hb6⟩;have ej:Below V.1.size V w6:=bq;have mp:=ej.size;have jn:=hid (own_below jm.o hb6);have fs:=hid (Zh fv (ge.mono (Q:=fun k=>V.1.size<=k) (fun k hk _=>Zm (by simpa using ku) hk)));clear fv ge;have kw:=hid ej;have HB6:=hid ((ej.block _ dw).trans HB4.o);obtain⟨⟨v0,v1,v2,v3,v4,v5,v6,v7,v8,v9⟩,vz⟩:=UQ ((ej.block _ dw).trans HB4.o);clear hb6 ej)))
   all_goals
    refine NoPanic.normal ?_;go_wp2_with fail;gi_meet;have hbz:Below wr.1.size wr w6:=fq.o.trans (kw.o.mono kk);have ko:∀Z,Upon wr.1.size w6 Z->Z.ownsRow 0 9 1 (.slice pa ps.length pc) ps.length (ps.map Value.string)/\SlA Z (fun _=>True) g ea:=fun Z hu =>
     ⟨Xq (EY (base:=wr.1.size+1) (Xq jn.o (by show wr.1.size+1<=V.1.size;omega)) (ZX _) hu) (Zk _),(fs.o.2.keep (Same.upon (by show ¬V.1.size<=wr.1.size;omega) hu (Same.refl _ _))).mono (fun _ _ _=>trivial)⟩
    refine⟨rfl,pa,pc,ea,ec,(by first|exact(Zfi HB6.o _ _ _ _ _ _ _).1|exact(Zfi HB6.o _ _ _ _ _ _ _).2),bq,(ko _ ?_).1,fs.o.1,(ko _ ?_).2⟩
    all_goals (repeat (first|(with_reducible exact Upon.refl _ _)|(with_reducible refine Upon.setAt ?_ (Or.inl rfl) _)))
  obtain⟨rfl,pa,pc,ea,ec,cw,R,cl,fu,gd⟩:=hcut.o;obtain⟨W5,rfl⟩:=ey wc;have jl:=hid (Zh cl (Zh fu gd));clear cl fu gd;clear hcut c0 c1 c2 c3 c4 c5 c6 c7 c8 c9 cz jd fe HB4 bx HW4 fq;have G:=(ah.o.keep R).more (B':=W5.1.size) R.size (Zc _);have HT:=hid G;have jr:=G.hbs;have js:=G.size;have lh:=G.bsize;obtain⟨⟨c0,c1,c2,c3,c4,c5,c6,c7,c8,c9⟩,cz⟩:=UQ cw;obtain⟨⟨f0,f1,f2,f3⟩,ff⟩:=Yy G.b2;obtain⟨cs,r1,r2,r3,r4⟩:=G.rN;have bf:(p.nodes.take i).length=i:=by rw[Yc];omega
  rw[bf] at r2;have bj:=hid bf;obtain⟨av,cv,rfl⟩:=YC r2;have bk:=hid r1;have O:=hid r2;have bl:=hid r3;have bm:=hid r4;obtain⟨i0,bc,bd,dv,du⟩:=info_parts qF;have A:=hid (Zh bc (Zh bd (Zh dv du)));have HB6:=hid (Zg W5.1.size W5);have cc:w.1.size+1+1<W5.1.size:=oq;clear G r1 r2 r3 r4 bc bd du dv bf cw R;gi_upto_region 11 with fail
  refine wpIn_wide.2 (wp_region_noPanic ?_);go_wp2_with (refine wpList_append_lies _ (by rfl) _ _ _ (by rfl) bs 113 i0 _ 10 128 underlying22 A.o.1 A.o.2.1 A.o.2.2.1 A.o.2.2.2 rfl oq (.slice av i cv) i cs.flatten (by rfl) ((own_below O.o HB6.o).alloc _) ⟨W5.1.size,0,none⟩ 1 1 [.string nm,.slice pa ps.length pc,.int .i64 bud,.int .i64 k2,.string U,.int .i64 n2,.int .i64 d2,.slice ea g.len ec,.int .i64 a2,.int .i64 fa] (by rfl) (by rfl) (World.news_of_block (ZA _ _)) (by simp[Value.oneCell']) oq (by unfold maxLen;omega) oq (by simp;have:=HB6.o.size;omega) (W5.1.size+1) (by simp) ?_;intro gg bt w4 z q bu bv;have ak:=HT.o.appN HB6.o bj.o bk.o O.o bl.o bm.o (c:=[.string nm,.slice pa ps.length pc,.int .i64 bud,.int .i64 k2,.string U,.int .i64 n2,.int .i64 d2,.slice ea g.len ec,.int .i64 a2,.int .i64 fa]) rfl (x:=⟨nm,ps,bud,⟨k2,U,n2,d2,g,a2⟩,fa⟩) (⟨pa,pc,ea,ec,rfl,jl.o⟩) z q;obtain⟨⟨dy,dx⟩,H,C,L⟩:=ak;have ag:=hid H;have E:=hid C;have bw:=hid L;clear H C L z q);refine NoPanic.normal ?_;gi_wp2;have hz:=ag.o;have en:=yr al;rw[dz.o] at en;rw[<-en] at hz;exact⟨hid ⟨i+1,_,by go_num,al,hz.more hz.bsize (Zc _)⟩,by simp[intOf];omega⟩
 have be:i=p.nodes.length:=oq;have ce:¬(i:Int)<(p.nodes.length:Int):=oq;subst be;rw[ZT] at hT;obtain⟨W3,rfl⟩:=ey wr;have gn:=hid hT;clear hT ah;obtain⟨⟨x0,x1,x2,x3,x4,x5,x6,x7,x8⟩,xf⟩:=Y1 (show W3.1[m]?=_ from(gn.o.low.block m gr).trans HM.o.box);gi_wp2;refine wpIn_loop (fun a' X=>∃(i:Nat)(Ds:List Nat)(dn:List (PE × ByteArray))(vT:Value),(i<=p.flows.length/\dn++YN (p.flows.drop i) i=YN p.flows 0/\FtI w m bs X.1.size Ds vI vN vT (.slice none 0 0) (p.ins.map (fun x=>(x.per,x.ph))) p.nodes (dn.map (tkR p xIx F iIx am env)) [] X) /\
  a'.defers=Ds.map mk/\a'.tmps.size=120/\slot a'.tmps 0=.pointer (some ⟨m,0,none⟩)/\slot a'.tmps 1=.pointer (some ⟨w.1.size,0,none⟩)/\slot a'.tmps 2=.pointer (some ⟨w.1.size+1,0,none⟩)/\slot a'.tmps 3=.pointer (some ⟨w.1.size+1+1,0,none⟩)/\slot a'.tmps 60=.slice af p.flows.length cf/\slot a'.tmps 61=.int .i64 (p.flows.length:Int)/\slot a'.tmps 62=.int .i64 (i:Int))
  (fun a' _=>p.flows.length-(intOf (slot a'.tmps 62)).toNat) ⟨0,[],[],_,⟨Zk _,rfl,gn.o⟩,rfl,rfl,rfl,rfl,rfl,rfl,rfl,rfl,rfl⟩ ?_
 rintro⟨tt,df⟩ wo ⟨i,Ds,dn,vT,⟨du,dt,hN⟩,rfl,aw,eu,bg,ew,bh,dc,dd,cg⟩;dsimp only at aw eu bg ew bh dc dd cg ⊢;have cx:=Zbz aw;rw[eu,bg,ew,bh,dc,dd,cg] at cx;rw[cg];rw[cx];clear cx aw eu bg ew bh dc dd cg;obtain⟨uu,kp⟩:∃uu:Nat->Value,slot tt=uu:=⟨_,rfl⟩;rw[kp];clear kp tt;clear gn x0 x1 x2 x3 x4 x5 x6 x7 x8 xf c0 ce HW;have HN:=hid hN;have c0:=hN.b0.cell;have em:=hN.low;have kl:=em.size;by_cases al:i<p.flows.length
 .have ce:(i:Int)<(p.flows.length:Int):=oq;rw[Ga al] at dt;have kx:=hid dt;have mg:dn.length<=30:=by
   have h1:=Z4 List.length dt;simp only[Zy] at h1;omega
  clear dt hN;gi_wp2_with (refine⟨trivial,?_⟩;gi_at_call 142;refine(Zu.2 (Uq (w:=wo) m i)).mono ?_;rintro x w5 ⟨rfl,rfl⟩);obtain⟨W5,ds⟩:=ez ((wo.alloc (.cells #[.pointer (some ⟨m,0,none⟩)] 167)).alloc (.cells #[.int .i64 (i:Int)] 3));rw[ds];have fh:Below wo.1.size wo W5:=by rw[<-ds];exact bq
  have gy:W5.1.size=wo.1.size+2:=by rw[<-ds];simp
  have lg:Boxed W5 wo.1.size 167 (.pointer (some ⟨m,0,none⟩)):=by rw[<-ds];exact(Boxed.new _ _ _).alloc _
  have ee:Boxed W5 (wo.1.size+1) 3 (.int .i64 (i:Int)):=by rw[<-ds];have:=Boxed.new (wo.alloc (.cells #[.pointer (some ⟨m,0,none⟩)] 167)) 3 (.int .i64 (i:Int));simpa using this
  clear ds c0;have jh:=hid ((HN.o.keep fh).more (B':=W5.1.size) fh.size (Zc _));have gp:=HM.o.grow (em.trans (fh.mono kl));have ft:=gp.low;have gj:=hid gp.box;have lp:=ft.size;have lz:wo.1.size+1<W5.1.size:=oq;have jw:=jh.o.hbs;have lr:=HN.o.size;have ls:=HN.o.bsize;clear fh gy gp;refine uI (w:=W5) (encs:=fun x:VS W0=>#[.agg #[.int .i64 x.s.1.k,.string x.s.1.nm,.int .i64 x.s.1.n,.int .i64 x.s.1.d,.slice x.ad x.s.1.args.len x.cap,.int .i64 x.s.1.a,.string x.s.2]]) rfl oq (gf:=195) (lb:=#[.pointer (some ⟨wo.1.size,0,none⟩),.pointer (some ⟨wo.1.size+1,0,none⟩)]) rfl trivial (enters_of func195 kq rfl) (n₀:=W0.1.size) (Bk:=wo.1.size) lp
   (VC p an ai _ ao cn ci cf co HP.o cp.o mc mi mf mn mx m wo.1.size (wo.1.size+1) i _ al W5 wo.1.size oq ft gj.o lg ee) (fun _=>rfl)
   (fun pre X=>∃vT,FtI w m bs W5.1.size Ds vI vN vT (.slice none 0 0) (p.ins.map (fun x=>(x.per,x.ph))) p.nodes ((dn++pre.map (fun y:VS W0=>y.s)).map (tkR p xIx F iIx am env)) [] X)
   (fun pre X=>False)
   (fun s X Y row hs hg hr=>by obtain⟨vT,h⟩:=hs;exact⟨vT,h.own hg hr⟩) (fun s X Y row hs hg hr=>hs.elim) ⟨vT,by simpa using jh.o⟩
   (fun x a' X=>∃(Bx:Nat),(W5.1.size<=Bx/\X.1[Bx]?=some (.cells #[.int .i64 x.s.1.k,.string x.s.1.nm,.int .i64 x.s.1.n,.int .i64 x.s.1.d,.slice x.ad x.s.1.args.len x.cap,.int .i64 x.s.1.a,.string x.s.2] 250 (0,0)))/\a'.defers=[]/\a'.tmps.size=120/\slot a'.tmps 1=.pointer (some ⟨w.1.size,0,none⟩)/\slot a'.tmps 3=.pointer (some ⟨w.1.size+1+1,0,none⟩)/\slot a'.tmps 9=.pointer (some ⟨Bx,0,none⟩))
   (fun x a' _ X Y row hs hg hrw=>by
    obtain⟨Bx,⟨h1,h2⟩,h3⟩:=hs;refine⟨Bx,⟨h1,(hg.block Bx (Zq.1 h2).1 (fun e=>?_)).trans h2⟩,h3⟩;obtain⟨_,o,ho,hc⟩:=hrw Bx e.symm;rw[h2] at ho;cases ho;cases hc)
   ?assign ?body ?done ?stop
  case assign =>
   rintro l2 pre x X K ⟨fp,ab⟩ hK;gi_wp2;exact hK _ _ ((Zg _ _).alloc (Zc _) _) ⟨fp,ab.keep ((Zg _ _).alloc (Zc _) _)⟩ ⟨X.1.size,⟨ab.bsize,Yx X _⟩,rfl,rfl,rfl,rfl,rfl⟩
  case body =>
   rintro l2 pre ⟨⟨⟨k2,U,n2,d2,g,a2⟩,ar⟩,dr,br,ep⟩ ⟨tt,df⟩ X lv ⟨r,hr⟩ ⟨fp,ab⟩ ⟨Bx,⟨mb,cm⟩,rfl,aw,bg,bh,ex⟩ kb;simp only at cm;dsimp only at aw bg bh ex ⊢;have cx:=Zbz aw;rw[bg,bh,ex] at cx;rw[cx];clear cx aw bg bh ex;obtain⟨ub,kn⟩:∃ub:Nat->Value,slot tt=ub:=⟨_,rfl⟩;rw[kn];clear kn tt;have mj:=ab.bsize;have ac:=Zb cm;obtain⟨⟨x0,x1,x2,x3,x4,x5,x6⟩,xf⟩:=Y5 cm;obtain⟨⟨f0,f1,f2,f3⟩,ff⟩:=Yy ab.b2;have cb:=ab.b0.cell;have ke:=ab.low.size;have kt:w.1.size<X.1.size:=ab.b0.lt;have cc:w.1.size+1+1<X.1.size:=oq;have dm:bs<=X.1.size:=oq;have KS:=hid (show ∀W:World,Below X.1.size X W->(fun w'=>w'.cell? ⟨w.1.size,0,none⟩=some (.pointer (some ⟨m,0,none⟩))/\w'.cell? ⟨Bx,0,none⟩=some (.int .i64 k2)/\w'.cell? ⟨Bx,1,none⟩=some (.string U)/\w'.cell? ⟨Bx,2,none⟩=some (.int .i64 n2)/\w'.cell? ⟨Bx,3,none⟩=some (.int .i64 d2)/\w'.cell? ⟨Bx,4,none⟩=some (.slice dr g.len br)/\w'.cell? ⟨Bx,5,none⟩=some (.int .i64 a2)/\w'.cell? ⟨Bx,6,none⟩=some (.string ar)) W from fun W hb=>⟨(hb.cell (p:=⟨w.1.size,0,none⟩) kt).trans cb,(hb.cell (p:=⟨Bx,0,none⟩) ac).trans x0,(hb.cell (p:=⟨Bx,1,none⟩) ac).trans x1,(hb.cell (p:=⟨Bx,2,none⟩) ac).trans x2,(hb.cell (p:=⟨Bx,3,none⟩) ac).trans x3,(hb.cell (p:=⟨Bx,4,none⟩) ac).trans x4,(hb.cell (p:=⟨Bx,5,none⟩) ac).trans x5,(hb.cell (p:=⟨Bx,6,none⟩) ac).trans x6⟩);have ay:=hid (Zh cm ab.b0);have KY:=hid (show ∀W:World,Sty 53 X W->(fun w'=>w'.cell? ⟨w.1.size,0,none⟩=some (.pointer (some ⟨m,0,none⟩))/\w'.cell? ⟨Bx,0,none⟩=some (.int .i64 k2)/\w'.cell? ⟨Bx,1,none⟩=some (.string U)/\w'.cell? ⟨Bx,2,none⟩=some (.int .i64 n2)/\w'.cell? ⟨Bx,3,none⟩=some (.int .i64 d2)/\w'.cell? ⟨Bx,4,none⟩=some (.slice dr g.len br)/\w'.cell? ⟨Bx,5,none⟩=some (.int .i64 a2)/\w'.cell? ⟨Bx,6,none⟩=some (.string ar)) W from fun W hs=>by
    obtain⟨⟨g0,g1,g2,g3,g4,g5,g6⟩,_⟩:=Y5 (hs.cells ay.o.1 (by decide));exact⟨(show Boxed W w.1.size _ _ from hs.cells ay.o.2 (by decide)).cell,g0,g1,g2,g3,g4,g5,g6⟩)
   have H:w.1.size+1+1≠Bx:=oq;have gu:w.1.size+1+1≠w.1.size:=oq;have KZ:=hid (show ∀(W:World)(v:Value),Sty 53 X W->(fun w'=>w'.cell? ⟨w.1.size,0,none⟩=some (.pointer (some ⟨m,0,none⟩))/\w'.cell? ⟨Bx,0,none⟩=some (.int .i64 k2)/\w'.cell? ⟨Bx,1,none⟩=some (.string U)/\w'.cell? ⟨Bx,2,none⟩=some (.int .i64 n2)/\w'.cell? ⟨Bx,3,none⟩=some (.int .i64 d2)/\w'.cell? ⟨Bx,4,none⟩=some (.slice dr g.len br)/\w'.cell? ⟨Bx,5,none⟩=some (.int .i64 a2)/\w'.cell? ⟨Bx,6,none⟩=some (.string ar)) (W.setCell ⟨w.1.size+1+1,2,none⟩ v) from fun W v hs=>by
    obtain⟨h0,h1,h2,h3,h4,h5,h6,h7⟩:=KY.o W hs;have hf:=fun o=>ZH W ⟨w.1.size+1+1,2,none⟩ ⟨Bx,o,none⟩ v H
    exact⟨(ZH W ⟨w.1.size+1+1,2,none⟩ ⟨w.1.size,0,none⟩ v gu).trans h0,(hf _).trans h1,(hf _).trans h2,(hf _).trans h3,(hf _).trans h4,(hf _).trans h5,(hf _).trans h6,(hf _).trans h7⟩)
   obtain⟨cs,r1,r2,r3,r4⟩:=ab.rT;obtain⟨nT,fk⟩:=ez (((dn++pre.map (fun y:VS W0=>y.s)).map (tkR p xIx F iIx am env)).length);have jy:=(cp.o.flows _ (Zi al)).1;unfold PE.sz at jy;have lx:nT<=200:=by rw[<-fk,Zo,Zy,Zo];omega
   rw[fk] at r2;obtain⟨av,cv,rfl⟩:=YC r2;have bj:=hid fk;have bk:=hid r1;have O:=hid r2;have bl:=hid r3;have bm:=hid r4;obtain⟨i0,bc,bd,cd,dv⟩:=info_parts qG;have A:=hid (Zh bc (Zh bd (Zh cd dv)));have fr:=hid ab.b2;have HT:=hid ab;obtain⟨cq,dk⟩:=ez ((XC g ar 0).map (fun k=>((JO p xIx F iIx k.1 k.2).1,(JO p xIx F iIx k.1 k.2).2.reverse)));have cy:cq.length=g.len:=by rw[<-dk,Zo,J6]
   have eb:=hid cy;obtain⟨⟨ax,au⟩,es⟩:=ez (UV (Xt env) ⟨k2,U,n2,d2,g,a2⟩);obtain⟨bi,eo⟩:=ez ((((am U).getD 0:Nat):Int));have km:tkR p xIx F iIx am env (⟨k2,U,n2,d2,g,a2⟩,ar)=⟨bi,ax,au,cq⟩:=by
    unfold tkR;simp only;rw[eo,es,dk]
   have dj:=fun(w':World) (hb:Below X.1.size X w')=>Zdy p an ai af ao cn ci cf co HP.o cp.o mc mi mf mn mx m Lc Li Lf Ln Lx (HM.o.grow (HT.o.low.trans (hb.mono ke))) xIx F iIx am J.o.1 J.o.2.1 J.o.2.2.1 J.o.2.2.2.1 J.o.2.2.2.2 env jc.o ⟨k2,U,n2,d2,g,a2⟩ ar dr br ep ax au es cq cy (by rw[<-dk];exact Zem HE.o ep.good)
   unfold spv at dj;simp only[eo] at dj;have jo:=hid dj;have bp:=hid (show ∀(w4:World)(v':Value),FtI w m bs W5.1.size Ds vI vN v' (.slice none 0 0) (p.ins.map (fun x=>(x.per,x.ph))) p.nodes ((dn++pre.map (fun y:VS W0=>y.s)).map (tkR p xIx F iIx am env)++[⟨bi,ax,au,cq⟩]) [] (w4.setCell ⟨w.1.size+1+1,2,none⟩ v')->Sty 53 X w4->Below w.1.size X w4 ->
     KeepsFrom W5.1.size X (w4.setCell ⟨w.1.size+1+1,2,none⟩ v')/\KF W0.1.size wo.1.size X (w4.setCell ⟨w.1.size+1+1,2,none⟩ v') /\
     ∃vT,FtI w m bs W5.1.size Ds vI vN vT (.slice none 0 0) (p.ins.map (fun x=>(x.per,x.ph))) p.nodes ((dn++(pre++[(⟨(⟨k2,U,n2,d2,g,a2⟩,ar),dr,br,ep⟩:VS W0)]).map (fun y:VS W0=>y.s)).map (tkR p xIx F iIx am env)) [] (w4.setCell ⟨w.1.size+1+1,2,none⟩ v') from fun w4 v' hft hs hb=>by
    have gb:∀k,k≠w.1.size+1+1->(w4.setCell ⟨w.1.size+1+1,2,none⟩ v').1[k]?=w4.1[k]?:=fun k hk=>Zr _ _ _ _ (fun e=>hk e)
    have hb2:Below w.1.size X (w4.setCell ⟨w.1.size+1+1,2,none⟩ v'):=hb.setCell (p:=⟨w.1.size+1+1,2,none⟩) (by show w.1.size<=w.1.size+1+1;omega) _;refine⟨⟨hb2.size,fun k o hk ho hc=>(gb k oq).trans (hs k o ho (fun ef fz e=>by subst e;cases hc))⟩,⟨hb2.mono fn,fun k o hk ho hc=>(gb k oq).trans (hs k o ho (fun ef fz e=>by subst e;simp[kept] at hc))⟩,v',?_⟩;simp only[ZV,List.map_cons,List.map_nil,km,<-List.append_assoc] at hft ⊢;exact hft)
   clear ab cm r1 r2 r3 r4 bc bd cd dv fk cy es eo dk km dj x0 x1 x2 x3 x4 x5 x6 xf cb hr kb;gi_wp2;refine Js (S:=fun w'=>w'.cell? ⟨w.1.size,0,none⟩=some (.pointer (some ⟨m,0,none⟩))/\w'.cell? ⟨Bx,0,none⟩=some (.int .i64 k2)/\w'.cell? ⟨Bx,1,none⟩=some (.string U)/\w'.cell? ⟨Bx,2,none⟩=some (.int .i64 n2)/\w'.cell? ⟨Bx,3,none⟩=some (.int .i64 d2)/\w'.cell? ⟨Bx,4,none⟩=some (.slice dr g.len br)/\w'.cell? ⟨Bx,5,none⟩=some (.int .i64 a2)/\w'.cell? ⟨Bx,6,none⟩=some (.string ar)) kq kq (by rintro⟨_,_,h⟩;exact h) (KS.o _ (Zg _ _).drew) (fun hH=>?_);refine tk 0 hH ?_;refine tk 2 hH ?_;refine tk 3 hH ?_;refine rz 1 4 (fun K hK=>?_) fun K hK=>?_
   .go_simp;refine hK.o _ _ (fun hH=>?_) (by first|exact KS.o _ (Zg _ _).drew|exact KS.o _ HB6.o);clear hK K;refine ry 4 fun K hK=>?_
    (go_simp;go_at_call 147;refine(jo.o X.drew (Zg _ _).drew).mono ?_;rintro x w6 ⟨⟨v6,rfl,db⟩,hb6⟩;obtain⟨cr,ct,fb⟩:=db.form;rw[eb.o] at fb;subst fb;have I:Below X.1.size X w6:=bq;have fo:=I.size;obtain⟨⟨t0,t1,t2,t3⟩,tf⟩:=Yy ((I.block _ cc).trans fr.o);have HB6:=hid I;have fg:=hid (db.mono (dm) (fun c x hc=>hc.mono dm));have fc:w.1.size+1+1<w6.1.size:=Zd cc fo;have gh:¬w.1.size+1+1=w6.1.size:=Nat.ne_of_lt fc;clear hb6 I db;try go_simp)
    refine hK.o _ _ (fun hH=>?_) (by exact KS.o _ HB6.o);clear hK K;refine ry 5 fun K hK=>?_
    go_simp;refine hK.o _ _ (fun hH=>?_) (by exact KS.o _ (HB6.o.alloc HB6.o.size _));clear hK K;refine ry 6 fun K hK=>?_
    (refine step_append_lies _ (by rfl) _ _ _ (by rfl) bs 53 i0 _ 4 48 underlying32 A.o.1 A.o.2.1 A.o.2.2.1 A.o.2.2.2 rfl oq (.slice av nT cv) nT cs.flatten (by rfl) ((own_below O.o HB6.o).alloc _) ⟨w6.1.size,0,none⟩ 1 1 [.int .i64 bi,.int .i64 ax,.int .i64 au,.slice cr g.len ct] (by rfl) (by rfl) (World.news_of_block (ZA _ _)) (by simp[Value.oneCell']) oq (by unfold maxLen;omega) oq (by simp;have:=HB6.o.size;omega) (w6.1.size+1) (by simp) ?_;intro gg bt w4 z q bu bv;have ak:=HT.o.appT HB6.o bj.o bk.o O.o bl.o bm.o (c:=[.int .i64 bi,.int .i64 ax,.int .i64 au,.slice cr g.len ct]) rfl (x:=⟨bi,ax,au,cq⟩) (⟨_,rfl,fg.o⟩) z q;obtain⟨⟨dy,dx⟩,H,C,L⟩:=ak;have ag:=hid H;have E:=hid C;have bw:=hid L;clear H C L z q)
    refine hK.o _ _ (fun hH=>?_) (by exact KY.o _ E.o);clear hK K;refine tk 7 hH ?_;refine ry 8 fun K hK=>?_
    go_simp;refine hK.o _ _ (fun hH=>?_) (by exact KZ.o _ _ E.o);clear hK K;refine Zz kq ?_ _
    (gi_wp2;first|exact bp.o _ _ ag.o E.o bw.o|trace_state)
   (go_simp;go_at_call 147;refine(jo.o X.drew (Zg _ _).drew).mono ?_;rintro x w6 ⟨⟨v6,rfl,db⟩,hb6⟩;obtain⟨cr,ct,fb⟩:=db.form;rw[eb.o] at fb;subst fb;have I:Below X.1.size X w6:=bq;have fo:=I.size;obtain⟨⟨t0,t1,t2,t3⟩,tf⟩:=Yy ((I.block _ cc).trans fr.o);have HB6:=hid I;have fg:=hid (db.mono (dm) (fun c x hc=>hc.mono dm));have fc:w.1.size+1+1<w6.1.size:=Zd cc fo;have gh:¬w.1.size+1+1=w6.1.size:=Nat.ne_of_lt fc;clear hb6 I db;try go_simp)
   refine hK.o _ _ (fun hH=>?_) (by first|exact KS.o _ (Zg _ _).drew|exact KS.o _ HB6.o);clear hK K;refine rz 1 5 (fun K hK=>?_) fun K hK=>?_
   .go_simp;refine hK.o _ _ (fun hH=>?_) (by first|exact KS.o _ HB6.o|exact KS.o _ (HB6.o.alloc HB6.o.size _));clear hK K;refine ry 5 fun K hK=>?_
    go_simp;refine hK.o _ _ (fun hH=>?_) (by exact KS.o _ (HB6.o.alloc HB6.o.size _));clear hK K;refine ry 6 fun K hK=>?_
    (refine step_append_lies _ (by rfl) _ _ _ (by rfl) bs 53 i0 _ 4 48 underlying32 A.o.1 A.o.2.1 A.o.2.2.1 A.o.2.2.2 rfl oq (.slice av nT cv) nT cs.flatten (by rfl) ((own_below O.o HB6.o).alloc _) ⟨w6.1.size,0,none⟩ 1 1 [.int .i64 bi,.int .i64 ax,.int .i64 au,.slice cr g.len ct] (by rfl) (by rfl) (World.news_of_block (ZA _ _)) (by simp[Value.oneCell']) oq (by unfold maxLen;omega) oq (by simp;have:=HB6.o.size;omega) (w6.1.size+1) (by simp) ?_;intro gg bt w4 z q bu bv;have ak:=HT.o.appT HB6.o bj.o bk.o O.o bl.o bm.o (c:=[.int .i64 bi,.int .i64 ax,.int .i64 au,.slice cr g.len ct]) rfl (x:=⟨bi,ax,au,cq⟩) (⟨_,rfl,fg.o⟩) z q;obtain⟨⟨dy,dx⟩,H,C,L⟩:=ak;have ag:=hid H;have E:=hid C;have bw:=hid L;clear H C L z q)
    refine hK.o _ _ (fun hH=>?_) (by exact KY.o _ E.o);clear hK K;refine tk 7 hH ?_;refine ry 8 fun K hK=>?_
    go_simp;refine hK.o _ _ (fun hH=>?_) (by exact KZ.o _ _ E.o);clear hK K;refine Zz kq ?_ _
    (gi_wp2;first|exact bp.o _ _ ag.o E.o bw.o|trace_state)
   go_simp;refine hK.o _ _ (fun hH=>?_) (by first|exact KS.o _ HB6.o|exact KS.o _ (HB6.o.alloc HB6.o.size _));clear hK K;refine ry 1 fun K hK=>?_
   go_simp;refine hK.o _ _ (fun hH=>?_) (by exact KS.o _ (HB6.o.alloc HB6.o.size _));clear hK K;refine ry 6 fun K hK=>?_
   (refine step_append_lies _ (by rfl) _ _ _ (by rfl) bs 53 i0 _ 4 48 underlying32 A.o.1 A.o.2.1 A.o.2.2.1 A.o.2.2.2 rfl oq (.slice av nT cv) nT cs.flatten (by rfl) ((own_below O.o HB6.o).alloc _) ⟨w6.1.size,0,none⟩ 1 1 [.int .i64 bi,.int .i64 ax,.int .i64 au,.slice cr g.len ct] (by rfl) (by rfl) (World.news_of_block (ZA _ _)) (by simp[Value.oneCell']) oq (by unfold maxLen;omega) oq (by simp;have:=HB6.o.size;omega) (w6.1.size+1) (by simp) ?_;intro gg bt w4 z q bu bv;have ak:=HT.o.appT HB6.o bj.o bk.o O.o bl.o bm.o (c:=[.int .i64 bi,.int .i64 ax,.int .i64 au,.slice cr g.len ct]) rfl (x:=⟨bi,ax,au,cq⟩) (⟨_,rfl,fg.o⟩) z q;obtain⟨⟨dy,dx⟩,H,C,L⟩:=ak;have ag:=hid H;have E:=hid C;have bw:=hid L;clear H C L z q)
   refine hK.o _ _ (fun hH=>?_) (by exact KY.o _ E.o);clear hK K;refine tk 7 hH ?_;refine ry 8 fun K hK=>?_
   go_simp;refine hK.o _ _ (fun hH=>?_) (by exact KZ.o _ _ E.o);clear hK K;refine Zz kq ?_ _
   (gi_wp2;first|exact bp.o _ _ ag.o E.o bw.o|trace_state)
  case done =>
   rintro D zs X hD lq ⟨fp,ab⟩ hK;gi_wp2;rw[show((i:Int)+1)=((i+1:Nat):Int) by omega];refine⟨⟨i+1,D::Ds,dn++zs.map (·.s),fp,⟨oq,?_,ab.mark hD hK⟩,rfl,rfl,rfl,rfl,rfl,rfl,rfl,rfl,rfl⟩,by simp[intOf,slot];omega⟩;rw[lq,List.append_assoc];exact kx.o
  rintro D pre X hD ly hX hK;exact hX.elim
 have be:i=p.flows.length:=oq;have ce:¬(i:Int)<(p.flows.length:Int):=oq;rw[be,Yq,YN,List.append_nil] at dt;subst dt;clear hN;obtain⟨⟨x0,x1,x2,x3,x4,x5,x6,x7,x8⟩,xf⟩:=Y1 (show wo.1[m]?=_ from(HN.o.low.block m gr).trans HM.o.box);gi_wp2;gi_loopw [84] (fun s84 X=>Hid (∃(i:Nat)(vL:Value),s84=.int .i64 (i:Int)/\i<=p.outs.length/\FtI w m bs X.1.size Ds vI vN vT vL (p.ins.map (fun x=>(x.per,x.ph))) p.nodes ((YN p.flows 0).map (tkR p xIx F iIx am env)) ((p.outs.take i).map (tlR p xIx F iIx env)) X)) (fun s84 _=>p.outs.length-(intOf s84).toNat)
 case atStart=>exact⟨0,_,rfl,Zk _,HN.o⟩
 obtain⟨i,vL,rfl,dv,hT⟩:=hrel.o;clear hrel HN x0 x1 x2 x3 x4 x5 x6 x7 x8 xf ce c0 em kl;have ah:=hid hT;have HW:=hid (HM.o.low.trans (hT.low.mono fn));have c0:=hT.b0.cell;by_cases ch:i<p.outs.length
 .have ce:(i:Int)<(p.outs.length:Int):=oq;obtain⟨bb,oo,rfl,ap,aq⟩:=HP.o.outs.at ch;have jv:bb<wr.1.size:=Zd ap HW.o.size;have T:=fun o=>HW.o.cell (p:=⟨bb,o,none⟩) ap
  obtain⟨j,hj,fj⟩:=jj.o _ (Zi ch);obtain⟨⟨nm,fl,dl,fa⟩,hf⟩:=ez (p.outs[i]);rw[hf] at aq hj;obtain⟨q0,q1,q2,q3,_⟩:=aq;simp only at q0 q1 q2 q3 hj;have y0:=(T _).trans q0;have y1:=(T _).trans q1;have y2:=(T _).trans q2;have y3:=(T _).trans q3;have dz:=hid hf;have HJ:=hid hj;have fw:=(cp.o.flows _ (Zi fj)).1;have dp:=(cp.o.flows _ (Zi fj)).2;have di:=fun(w':World) (hb:Below W0.1.size W0 w')=>Qw hb p an ai af _ cn ci cf co HP.o j fj oq
  have el:flE p j=p.flows[j].e:=by unfold flE;rw[Ze fj]
  obtain⟨⟨k1,nm1,n1,d1,aj,a1⟩,jx⟩:∃e,p.flows[j].e=e:=⟨_,rfl⟩;rw[jx] at di fw dp el;obtain⟨⟨src,gi⟩,gx⟩:=ez (JO p xIx F iIx ⟨k1,nm1,n1,d1,aj,a1⟩ (dg j));obtain⟨M,eq⟩:=ez gi.reverse;have jt:kJ p xIx F iIx ⟨k1,nm1,n1,d1,aj,a1⟩ (dg j) (src,M):=by
   obtain⟨N,hN⟩:=JZ (HE.o ⟨k1,nm1,n1,d1,aj,a1⟩ dp) (dg j);rw[gx] at hN;exact⟨N,gi,hN,eq.symm⟩
  have le:=hid (show tlR p xIx F iIx env ⟨nm,fl,dl,fa⟩=⟨(Xt env fl).1,(Xt env fl).2,src,M,dl⟩ by
   unfold tlR;simp only[hj,Ya,el,gx,eq])
  unfold spv PE.sz pv at *;simp only at di fw;have je:=hid di;have ky:=hid dp;have me:=Vi (i:=j) oq;have eh:=fun(w':World) (hb:Below w.1.size w w') e5 way5 ad5 cap5 (gy:Qs W0 e5 ad5 cap5 way5) r hr=>zG p an ai af _ cn ci cf co HP.o cp.o mc mi mf mn mx m Lc Li Lf Ln Lx (HM.o.grow hb) xIx F iIx J.o.1 J.o.2.1 J.o.2.2.1 J.o.2.2.2.2 e5 way5 ad5 cap5 gy r hr
  unfold spv at eh;have ja:=hid eh;have kv:=hid jt;clear q0 q1 q2 q3 T hf hj dp di el jx gx eq jt eh;gi_wp2;obtain⟨V,ca⟩:=ez (wr.alloc (.cells #[.string nm,.string fl,.int .i64 dl,.int .i64 fa] 157));have hb4:Below wr.1.size wr V:=by rw[<-ca];exact(Zg _ _).alloc (Zc _) _
  have bz:V.1[wr.1.size]?=some (.cells #[.string nm,.string fl,.int .i64 dl,.int .i64 fa] 157 (0,0)):=by rw[<-ca];exact Yx wr _
  rw[ca];have dw:=Zb bz;clear ca y0 y1 y2 y3 c0;have bx:=hid ((ah.o.keep hb4).more (B':=V.1.size) hb4.size (Zc _));have ed:=hid (HM.o.grow bx.o.low);have HW4:=hid ed.o.low;have HB4:=hid bz;have kc:=bx.o.low.size;have kr:w.1.size<V.1.size:=bx.o.b0.lt;have cj:=ed.o.lt;obtain⟨⟨c0,c1,c2,c3⟩,cz⟩:=Yy bz;have cb:=bx.o.b0.cell;obtain⟨⟨z0,z1,z2,z3,z4,z5,z6,z7,z8⟩,zf⟩:=Y1 (show V.1[m]?=_ from ed.o.box);have KB:=hid (show ∀W:World,Below V.1.size V W->(fun w'=>w'.cell? ⟨w.1.size,0,none⟩=some (.pointer (some ⟨m,0,none⟩))/\w'.cell? ⟨m,0,none⟩=some (.slice an p.nodes.length cn)/\w'.cell? ⟨m,1,none⟩=some (.slice ai p.ins.length ci)/\w'.cell? ⟨m,2,none⟩=some (.slice af p.flows.length cf)/\w'.cell? ⟨m,3,none⟩=some (.slice (some ⟨bb,oo,none⟩) p.outs.length co)/\w'.cell? ⟨m,6,none⟩=some (.map (some mf))/\w'.cell? ⟨wr.1.size,1,none⟩=some (.string fl)/\(Instr.lookup 252 (.map (some mf)) (.string fl) false).run prog w'=.ok (.int .i64 (j:Int)) w') W from fun W hb=>by
   have h:=Qa Q0 (ed.o.f.below hb) fl false;have h2:=J.o.2.1 fl;rw[HJ.o] at h2;rw[h2] at h;exact⟨(hb.cell (p:=⟨w.1.size,0,none⟩) kr).trans cb,(hb.cell (p:=⟨m,0,none⟩) cj).trans z0,(hb.cell (p:=⟨m,1,none⟩) cj).trans z1,(hb.cell (p:=⟨m,2,none⟩) cj).trans z2,(hb.cell (p:=⟨m,3,none⟩) cj).trans z3,(hb.cell (p:=⟨m,6,none⟩) cj).trans z6,(hb.cell (p:=⟨wr.1.size,1,none⟩) dw).trans c1,h⟩)
  clear hT hb4 bz c0 c1 c2 c3 cz cb z0 z1 z2 z3 z4 z5 z6 z7 z8 zf;gi_cut [12] from 120 (fun s12 W=>Hid (∃X v,s12=.pointer (some ⟨X,0,none⟩)/\V.1.size<=X/\W.1[X]?=some (.cells #[.int .i64 (src:Int),v] 92 (0,0))/\W.ownsRow V.1.size 183 3 v M.length (Qy M)/\Below V.1.size V W))
  case first =>
   refine wpIn_wide.2 ?_;go_region_held3 (fun w'=>w'.cell? ⟨w.1.size,0,none⟩=some (.pointer (some ⟨m,0,none⟩))/\w'.cell? ⟨m,0,none⟩=some (.slice an p.nodes.length cn)/\w'.cell? ⟨m,1,none⟩=some (.slice ai p.ins.length ci)/\w'.cell? ⟨m,2,none⟩=some (.slice af p.flows.length cf)/\w'.cell? ⟨m,3,none⟩=some (.slice (some ⟨bb,oo,none⟩) p.outs.length co)/\w'.cell? ⟨m,6,none⟩=some (.map (some mf))/\w'.cell? ⟨wr.1.size,1,none⟩=some (.string fl)/\(Instr.lookup 252 (.map (some mf)) (.string fl) false).run prog w'=.ok (.int .i64 (j:Int)) w') (exact KB.o _ bq) (first|(go_at_call 139;refine(je.o _ bq).mono ?_;rintro x w1 ⟨⟨lf,jq,rfl,ei⟩,hb1⟩;have hbA:Below V.1.size V w1:=bq;have mm:=hbA.size;have ld:=hid (show Qs W0 ⟨k1,nm1,n1,d1,aj,a1⟩ lf jq (dg j) from ⟨ei,ky.o,by show(dg j).size+3*aj.sz<=500;omega,by show aj.sz<100;omega⟩);clear ei;first|(have bo:w1.1[V.1.size]?=some (.cells #[.int .i64 0,.slice none 0 0] 92 (0,0)):=(hb1.block V.1.size (by simp)).trans (Yx V.drew _);have gk:=hid bo;clear bo)|skip)|(go_at_call 148;refine(ja.o _ (bx.o.low.trans ((show Below V.1.size V _ from bq).mono kc)) _ _ _ _ ld.o _ kv.o).mono ?_;rintro x w2 ⟨⟨v2,rfl,fm⟩,hb2⟩;obtain⟨az,ba,rfl⟩:=YC fm;have ji:=hid fm;clear fm;(first|(have bo:w2.1[V.1.size]?=some (.cells #[.int .i64 0,.slice none 0 0] 92 (0,0)):=(hb2.block _ (Zb gk.o)).trans gk.o;have jf:=hid (Zb gk.o);have gq:=YI bo;obtain⟨⟨v0,v1⟩,vf⟩:=gq;have jb:=hid bo;clear bo)|(have bo:w2.1[w1.1.size]?=some (.cells #[.int .i64 0,.slice none 0 0] 92 (0,0)):=(hb2.block w1.1.size (by simp)).trans (Yx w1 _);have gq:=YI bo;obtain⟨⟨v0,v1⟩,vf⟩:=gq;have jb:=hid bo;clear bo)|skip);have ju:Below V.1.size V w2:=bq;clear hbA;have hbA:=ju;clear ju;have mo:=hbA.size))
   all_goals
    go_wp2_with fail;gi_meet;have ku:=hbA.size
    first|exact⟨_,_,rfl,(by first|exact Zc _|assumption|(simp;done)|omega),Zfj jb.o _ _,Xq (Xc (Xc ji.o (by first|exact jf.o|(simp;done)|omega) _) (by first|exact jf.o|(simp;done)|omega) _) (by first|exact Zc _|assumption|(simp;done)|(simp;omega)|omega),bq⟩|exact⟨_,_,rfl,(by first|exact Zc _|assumption|(simp;done)|omega),Yx _ _,Xq (ji.o.alloc _) (by first|exact Zc _|assumption|(simp;done)|(simp;omega)|omega),bq⟩
  obtain⟨XA,v2,rfl,md,cw,er,R⟩:=hcut.o;obtain⟨W6,rfl⟩:=ey wc;obtain⟨az,ba,rfl⟩:=YC er;clear hcut KB je ja;have G:=(bx.o.keep R).more (B':=W6.1.size) R.size (Zc _);have HT:=hid G;have jr:=G.hbs;have js:=G.size;have lh:=G.bsize;have fo:=R.size;have dq:=hid (ed.o.grow R);have ek:=(R.block _ dw).trans HB4.o;have fy:=Zb cw;have ks:w.1.size<W6.1.size:=oq;have kf:m<W6.1.size:=oq;have ga:wr.1.size<W6.1.size:=oq;have cc:w.1.size+1+1<W6.1.size:=oq;obtain⟨⟨c0,c1,c2,c3⟩,cz⟩:=Yy ek;obtain⟨⟨g0,g1⟩,gz⟩:=YI cw;have cb:=G.b0.cell;obtain⟨⟨z0,z1,z2,z3,z4,z5,z6,z7,z8⟩,zf⟩:=Y1 (show W6.1[m]?=_ from dq.o.box);obtain⟨⟨ae,aa⟩,da⟩:=ez (Xt env fl);have jz:(Xm fl Lc).getD (.agg #[.int .i64 0,.int .i64 0])=.agg #[.int .i64 ae,.int .i64 aa]:=by
   rw[jc.o fl];unfold Xt at da
   cases hen:env fl with
   | none=>rw[hen] at da;cases da;rfl
   | some c=>rw[hen] at da;cases da;rfl
  have gl:=hid jz;have KS:=hid (show ∀W:World,Below W6.1.size W6 W->(fun w'=>w'.cell? ⟨w.1.size,0,none⟩=some (.pointer (some ⟨m,0,none⟩))/\w'.cell? ⟨m,4,none⟩=some (.map (some mc))/\w'.cell? ⟨wr.1.size,1,none⟩=some (.string fl)/\w'.cell? ⟨wr.1.size,2,none⟩=some (.int .i64 dl)/\w'.cell? ⟨XA,0,none⟩=some (.int .i64 (src:Int))/\w'.cell? ⟨XA,1,none⟩=some (.slice az M.length ba)/\(Instr.lookup 161 (.map (some mc)) (.string fl) false).run prog w'=.ok (.agg #[.int .i64 ae,.int .i64 aa]) w') W from fun W hb=>by
   have h:=Qa QI (dq.o.c.below hb) fl false;simp only[Bool.false_eq_true,if_false] at h;exact⟨(hb.cell (p:=⟨w.1.size,0,none⟩) ks).trans cb,(hb.cell (p:=⟨m,4,none⟩) kf).trans z4,(hb.cell (p:=⟨wr.1.size,1,none⟩) ga).trans c1,(hb.cell (p:=⟨wr.1.size,2,none⟩) ga).trans c2,(hb.cell (p:=⟨XA,0,none⟩) fy).trans g0,(hb.cell (p:=⟨XA,1,none⟩) fy).trans g1,h.trans (by rw[<-gl.o])⟩)
  have ay:=hid (Zh cw (Zh G.b0 (Zh ek dq.o.box)));have KY:=hid (show ∀W:World,Sty 94 W6 W->(fun w'=>w'.cell? ⟨w.1.size,0,none⟩=some (.pointer (some ⟨m,0,none⟩))/\w'.cell? ⟨m,4,none⟩=some (.map (some mc))/\w'.cell? ⟨wr.1.size,1,none⟩=some (.string fl)/\w'.cell? ⟨wr.1.size,2,none⟩=some (.int .i64 dl)/\w'.cell? ⟨XA,0,none⟩=some (.int .i64 (src:Int))/\w'.cell? ⟨XA,1,none⟩=some (.slice az M.length ba)/\(Instr.lookup 161 (.map (some mc)) (.string fl) false).run prog w'=.ok (.agg #[.int .i64 ae,.int .i64 aa]) w') W from fun W hs=>by
   obtain⟨⟨e0,e1⟩,_⟩:=YI (hs.cells ay.o.1 (by decide));obtain⟨⟨o0,o1,o2,o3⟩,_⟩:=Yy (hs.cells ay.o.2.2.1 (by decide));obtain⟨⟨n0,n1,n2,n3,n4,n5,n6,n7,n8⟩,_⟩:=Y1 (show W.1[m]?=_ from hs.cells ay.o.2.2.2 (by decide));obtain⟨arr,ck,gs,gt⟩:=dq.o.c;have h:=Qa QI (w:=W) (show YT W mc Lc from ⟨arr,ck,hs _ _ gs (fun ef fz e=>by cases e),gt⟩) fl false;simp only[Bool.false_eq_true,if_false] at h;exact⟨(show Boxed W w.1.size _ _ from hs.cells ay.o.2.1 (by decide)).cell,n4,o1,o2,e0,e1,h.trans (by rw[<-gl.o])⟩)
  have gu:w.1.size+1+1≠w.1.size:=oq;have ln:w.1.size+1+1≠m:=oq;have kh:w.1.size+1+1≠wr.1.size:=by have:=ah.o.size;have:=ah.o.bsize;omega
  have kg:w.1.size+1+1≠XA:=by have:=ah.o.size;have:=ah.o.bsize;omega
  have lm:mc≠w.1.size+1+1:=by have:=dq.o.ord;omega
  have KZ:=hid (show ∀(W:World)(v:Value),Sty 94 W6 W->(fun w'=>w'.cell? ⟨w.1.size,0,none⟩=some (.pointer (some ⟨m,0,none⟩))/\w'.cell? ⟨m,4,none⟩=some (.map (some mc))/\w'.cell? ⟨wr.1.size,1,none⟩=some (.string fl)/\w'.cell? ⟨wr.1.size,2,none⟩=some (.int .i64 dl)/\w'.cell? ⟨XA,0,none⟩=some (.int .i64 (src:Int))/\w'.cell? ⟨XA,1,none⟩=some (.slice az M.length ba)/\(Instr.lookup 161 (.map (some mc)) (.string fl) false).run prog w'=.ok (.agg #[.int .i64 ae,.int .i64 aa]) w') (W.setCell ⟨w.1.size+1+1,3,none⟩ v) from fun W v hs=>by
   obtain⟨h0,h1,h2,h3,h4,h5,h6⟩:=KY.o W hs;obtain⟨arr,ck,gs,gt⟩:=dq.o.c;have h:=Qa QI (w:=W.setCell ⟨w.1.size+1+1,3,none⟩ v) (show YT (W.setCell ⟨w.1.size+1+1,3,none⟩ v) mc Lc from ⟨arr,ck,(Zr _ _ _ _ (fun e=>lm e)).trans (hs _ _ gs (fun ef fz e=>by cases e)),gt⟩) fl false;simp only[Bool.false_eq_true,if_false] at h;have hf:=fun b o (hb:w.1.size+1+1≠b)=>ZH W ⟨w.1.size+1+1,3,none⟩ ⟨b,o,none⟩ v hb
   exact⟨(hf _ _ gu).trans h0,(hf _ _ ln).trans h1,(hf _ _ kh).trans h2,(hf _ _ kh).trans h3,(hf _ _ kg).trans h4,(hf _ _ kg).trans h5,h.trans (by rw[<-gl.o])⟩)
  obtain⟨⟨f0,f1,f2,f3⟩,ff⟩:=Yy G.b2;obtain⟨cs,r1,r2,r3,r4⟩:=G.rL;have bf:((p.outs.take i).map (tlR p xIx F iIx env)).length=i:=by rw[Zo,Yc];omega
  rw[bf] at r2;have bj:=hid bf;obtain⟨av,cv,rfl⟩:=YC r2;have bk:=hid r1;have O:=hid r2;have bl:=hid r3;have bm:=hid r4;obtain⟨i0,bc,bd,cd,fx⟩:=info_parts qH;have A:=hid (Zh bc (Zh bd (Zh cd fx)));have HB6:=hid (Zg W6.1.size W6);have dh:=hid (show Below W6.1.size W6 W6.drew from(Zg _ _).drew);have jk:=hid (Xq er (base':=bs) bx.o.size);have jp:=hid (show tlR p xIx F iIx env ⟨nm,fl,dl,fa⟩=⟨ae,aa,src,M,dl⟩ by rw[le.o,da]);have bp:=hid (show ∀(w4:World)(v':Value),FtI w m bs W6.1.size Ds vI vN vT v' (p.ins.map (fun x=>(x.per,x.ph))) p.nodes ((YN p.flows 0).map (tkR p xIx F iIx am env)) ((p.outs.take i).map (tlR p xIx F iIx env)++[⟨ae,aa,src,M,dl⟩]) w4->FtI w m bs w4.1.size Ds vI vN vT v' (p.ins.map (fun x=>(x.per,x.ph))) p.nodes ((YN p.flows 0).map (tkR p xIx F iIx am env)) ((p.outs.take (i+1)).map (tlR p xIx F iIx env)) w4 from fun w4 v' h=>by
   rw[map_take (tlR p xIx F iIx env) ch,dz.o,jp.o];exact h.more h.bsize (Zc _))
  clear G r1 r2 r3 r4 bc bd cd fx bf cw er R ek c0 c1 c2 c3 cz g0 g1 gz cb z0 z1 z2 z3 z4 z5 z6 z7 z8 zf da jz;gi_upto_region 24 with fail
  refine wpIn_wide.2 (wp_region_noPanic ?_);refine ZP (S:=fun w'=>w'.cell? ⟨w.1.size,0,none⟩=some (.pointer (some ⟨m,0,none⟩))/\w'.cell? ⟨m,4,none⟩=some (.map (some mc))/\w'.cell? ⟨wr.1.size,1,none⟩=some (.string fl)/\w'.cell? ⟨wr.1.size,2,none⟩=some (.int .i64 dl)/\w'.cell? ⟨XA,0,none⟩=some (.int .i64 (src:Int))/\w'.cell? ⟨XA,1,none⟩=some (.slice az M.length ba)/\(Instr.lookup 161 (.map (some mc)) (.string fl) false).run prog w'=.ok (.agg #[.int .i64 ae,.int .i64 aa]) w') kq (KS.o _ (Zg _ _).drew) (fun hH=>?_);refine tk 0 hH ?_;refine tk 2 hH ?_;refine tk 3 hH ?_;refine tk 4 hH ?_;refine tk 5 hH ?_;refine tk 6 hH ?_;refine tk 7 hH ?_;refine tk 8 hH ?_;refine tk 9 hH ?_;refine tk 10 hH ?_;refine tk 11 hH ?_;refine tk 12 hH ?_;refine rz 1 13 (fun K hK=>?_) fun K hK=>?_
  .go_simp;refine hK.o _ _ (fun hH=>?_) (by first|exact KS.o _ (Zg _ _).drew|exact KS.o _ (((Zg _ _).drew).alloc (Zc _) _));clear hK K;refine ry 13 fun K hK=>?_
   go_simp;refine hK.o _ _ (fun hH=>?_) (by exact KS.o _ (((Zg _ _).drew).alloc (Zc _) _));clear hK K;refine ry 14 fun K hK=>?_
   (refine step_append_lies _ (by rfl) _ _ _ (by rfl) bs 94 i0 _ 5 56 underlying33 A.o.1 A.o.2.1 A.o.2.2.1 A.o.2.2.2 rfl oq (.slice av i cv) i cs.flatten (by rfl) ((own_below O.o dh.o).alloc _) ⟨W6.1.size,0,none⟩ 1 1 [.int .i64 ae,.int .i64 aa,.int .i64 (src:Int),.slice az M.length ba,.int .i64 dl] (by rfl) (by rfl) (World.news_of_block (ZA _ _)) (by simp[Value.oneCell']) oq (by unfold maxLen;omega) oq (by simp;have:=HB6.o.size;omega) (W6.1.size+1) (by simp) ?_;intro gg bt w4 z q bu bv;have ak:=HT.o.appL dh.o bj.o bk.o O.o bl.o bm.o (c:=[.int .i64 ae,.int .i64 aa,.int .i64 (src:Int),.slice az M.length ba,.int .i64 dl]) rfl (x:=⟨ae,aa,src,M,dl⟩) (⟨_,rfl,jk.o⟩) z (show(W6.drew.alloc (.cells #[.int .i64 ae,.int .i64 aa,.int .i64 (src:Int),.slice az M.length ba,.int .i64 dl] 94)).grownBy w4 _ from q);obtain⟨⟨dy,dx⟩,H,C,L⟩:=ak;have ag:=hid H;have E:=hid C;have bw:=hid L;clear H C L z q)
   refine hK.o _ _ (fun hH=>?_) (by exact KY.o _ E.o);clear hK K;refine tk 15 hH ?_;refine ry 16 fun K hK=>?_
   go_simp;refine hK.o _ _ (fun hH=>?_) (by exact KZ.o _ _ E.o);clear hK K;refine Zz kq ?_ _
   (refine NoPanic.normal ?_;gi_wp2;exact⟨hid ⟨i+1,_,by go_num,ch,bp.o _ _ ag.o⟩,by simp[intOf];omega⟩)
  go_simp;refine hK.o _ _ (fun hH=>?_) (by first|exact KS.o _ (Zg _ _).drew|exact KS.o _ (((Zg _ _).drew).alloc (Zc _) _));clear hK K;refine ry 1 fun K hK=>?_
  go_simp;refine hK.o _ _ (fun hH=>?_) (by exact KS.o _ (((Zg _ _).drew).alloc (Zc _) _));clear hK K;refine ry 14 fun K hK=>?_
  (refine step_append_lies _ (by rfl) _ _ _ (by rfl) bs 94 i0 _ 5 56 underlying33 A.o.1 A.o.2.1 A.o.2.2.1 A.o.2.2.2 rfl oq (.slice av i cv) i cs.flatten (by rfl) ((own_below O.o dh.o).alloc _) ⟨W6.1.size,0,none⟩ 1 1 [.int .i64 ae,.int .i64 aa,.int .i64 (src:Int),.slice az M.length ba,.int .i64 dl] (by rfl) (by rfl) (World.news_of_block (ZA _ _)) (by simp[Value.oneCell']) oq (by unfold maxLen;omega) oq (by simp;have:=HB6.o.size;omega) (W6.1.size+1) (by simp) ?_;intro gg bt w4 z q bu bv;have ak:=HT.o.appL dh.o bj.o bk.o O.o bl.o bm.o (c:=[.int .i64 ae,.int .i64 aa,.int .i64 (src:Int),.slice az M.length ba,.int .i64 dl]) rfl (x:=⟨ae,aa,src,M,dl⟩) (⟨_,rfl,jk.o⟩) z (show(W6.drew.alloc (.cells #[.int .i64 ae,.int .i64 aa,.int .i64 (src:Int),.slice az M.length ba,.int .i64 dl] 94)).grownBy w4 _ from q);obtain⟨⟨dy,dx⟩,H,C,L⟩:=ak;have ag:=hid H;have E:=hid C;have bw:=hid L;clear H C L z q)
  refine hK.o _ _ (fun hH=>?_) (by exact KY.o _ E.o);clear hK K;refine tk 15 hH ?_;refine ry 16 fun K hK=>?_
  go_simp;refine hK.o _ _ (fun hH=>?_) (by exact KZ.o _ _ E.o);clear hK K;refine Zz kq ?_ _
  (refine NoPanic.normal ?_;gi_wp2;exact⟨hid ⟨i+1,_,by go_num,ch,bp.o _ _ ag.o⟩,by simp[intOf];omega⟩)
 have mh:¬(i:Int)<(p.outs.length:Int):=oq;have be:p.outs.take i=p.outs:=List.take_of_length_le oq;rw[be] at hT;obtain⟨aI,cI,rfl⟩:=hT.rI.form;obtain⟨aN,cN,rfl⟩:=hT.rN.form;obtain⟨aT,cT,rfl⟩:=hT.rT.form;obtain⟨aL,cL,rfl⟩:=hT.rL.form;simp only[Zo] at hT;have bn:=hid hT;obtain⟨⟨f0,f1,f2,f3⟩,ff⟩:=Yy hT.b2;obtain⟨⟨g0,g1,g2,g3⟩,gf⟩:=Yy hT.b1;have lw:¬w.1.size+1=w.1.size+1+1:=oq;clear hT ah HW;gi_upto_region 26 with fail
 refine wpIn_wide.2 (wp_region_noPanic ?_);go_wp2_with fail;refine NoPanic.normal ?_;gi_wp2;refine Ql Ds _ ((((bn.o.marks.set _ _).set _ _).set _ _).set _ _) (fun w' hk=>?_);have kj:=hk.same (w.1.size+1) _ (Zfl bn.o.b1 _ _ _ _) rfl;obtain⟨⟨q0,q1,q2,q3⟩,qf⟩:=Yy kj;have kd:=bn.o.low.size;have de:Y4 35 wr w':=by
  intro k ef t fz li ht;exact hk.same k _ ((Y4.of_upon bn.o.b1 (vg wr (w.1.size+1) _ _ _ _)) k ef t fz li ht) rfl
 have R:w.1.size<=bs:=by have:=bn.o.hbs;omega
 refine⟨.agg #[.slice aI p.ins.length cI,.slice aN p.nodes.length cN,.slice aT (YN p.flows 0).length cT,.slice aL p.outs.length cL],?_,⟨_,_,_,_,rfl,?_,?_,?_,?_⟩,?_⟩
 .simp only[results,results84];go_simp
 .exact(bn.o.rI.stays de (by decide) (fun c x hc=>hc)).mono R (fun c x hc=>hc)
 .exact(bn.o.rN.stays de (by decide) (fun c x hc=>hc.stays de (by decide) (by decide))).mono R (fun c x hc=>hc)
 .exact(bn.o.rT.stays de (by decide) (fun c x hc=>hc.stays de (by decide) (by decide))).mono R (fun c x hc=>hc.mono R)
 .exact(bn.o.rL.stays de (by decide) (fun c x hc=>hc.stays de (by decide))).mono R (fun c x hc=>Uw hc R)
 exact Below.trans (bn.o.low.trans (Upon.below (vg wr (w.1.size+1) _ _ _ _) kd (ZY _ 1))) hk.below
