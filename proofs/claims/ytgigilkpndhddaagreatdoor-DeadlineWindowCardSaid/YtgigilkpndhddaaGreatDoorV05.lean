/- Parts of the proof. -/
import Derived.Deep.RegionHeld3
import Derived.Deep.Upon
import Derived.Lib.AppendZeros
import Derived.StillTailTactics
import Derived.Test.YtgigilkpndhddaaGreatDoorV00
import Derived.Test.YtgigilkpndhddaaGreatDoorV04
set_option linter.all false
set_option maxRecDepth 100000
set_option maxHeartbeats 16000000
namespace Go.Proofs.YtgigilkpndhddaaGreatDoor.syn
open Tryz
open Go.RowKit
theorem X1{w:World}{b:Nat}{f g j:Value}{t:TypeId}(h:w.heap[b]?=some (.cells #[f,g,j] t (0,0))) :
  (w.cell? ⟨b,0,none⟩=some f∧w.cell? ⟨b,1,none⟩=some g∧w.cell? ⟨b,2,none⟩=some j)∧∀o,w.frozen? ⟨b,o,none⟩=false:=by
 refine⟨⟨?_,?_,?_⟩,?_⟩
 all_goals first|(intro o;simp[World.frozen?,h])|simp[World.cell?,h]
theorem VF{P:Program}{e:TypeId}{z:Value}{n b:Nat}(h:(P.info? e).map (fun i=>(i.zero,i.size,i.bytes))=some (some z,n,b)):∃i,P.info? e=some i∧i.zero=some z∧i.size=n∧i.bytes=b:=by
 cases hi:P.info? e with
 | none=>rw[hi] at h;cases h
 | some i=>rw[hi] at h;simp at h;exact⟨i,rfl,h.1,h.2.1,h.2.2⟩
theorem ZbM:(prog.info? 88).map (fun i=>(i.zero,i.size,i.bytes))=some (some (.agg #[.int .i64 0,.string ⟨#[]⟩,.int .i64 0,.int .i64 0,.slice none 0 0,.int .i64 0]),6,72):=by kernel_rfl
theorem Ze7:(prog.info? 289).map (fun i=>(i.zero,i.size,i.bytes))=some (some (.agg #[.pointer none,.int .i64 0,.int .i64 0]),3,24):=by kernel_rfl
theorem ZdW{w:World}{base:Nat}{e:TypeId}{size:Nat}{v:Value}{n:Nat}{xs:List Value}(h:w.ownsRow base e size v n xs){b:Nat}(hb:b<base):some b≠v.ownBlock:=by
 intro e;have:=(h.lt b e.symm).1;omega
theorem XQ{w:World}{base:Nat}{e t:TypeId}{size:Nat}{v:Value}{n:Nat}{xs:List Value}(h:w.ownsRow base e size v n xs){b:Nat}{j:Array Value}{m:Nat × Nat}(hb:w.heap[b]?=some (.cells j t m))(ht:t≠e):some b≠v.ownBlock:=by
 intro f;rcases h.2 with ⟨h1,_⟩|⟨g,cap,cur,h1,_,hg,_⟩
 ·rw[h1] at f;cases f
 rw[h1] at f;injection f with f
 have f:b=g:=f;subst f;rw[hb] at hg;injection hg with hg
 injection hg with _ hg _
 exact ht hg
def zEx:List Value:=[.int .i64 0,.string ⟨#[]⟩,.int .i64 0,.int .i64 0,.slice none 0 0,.int .i64 0]
structure Zgw (w w4:World) (gb b o gg nn:Nat) (vn:Value) (k:Int) (nm:ByteArray) (n d a:Int):Prop where
 ne:(gg≠gb∧gg≠b)∧¬gb=gg∧¬b=gg
 c0:w4.cell? ⟨b,o,none⟩=some (.int .i64 k)
 c1:w4.cell? ⟨b,o+1,none⟩=some (.string nm)
 c2:w4.cell? ⟨b,o+2,none⟩=some (.int .i64 n)
 c3:w4.cell? ⟨b,o+3,none⟩=some (.int .i64 d)
 c5:w4.cell? ⟨b,o+5,none⟩=some (.int .i64 a)
 g0:w4.cell? ⟨gb,0,none⟩=some vn
 gf:w4.frozen? ⟨gb,0,none⟩=false
 f:w4.frozen? ⟨gg,nn*6,none⟩=false∧w4.frozen? ⟨gg,nn*6+1,none⟩=false∧w4.frozen? ⟨gg,nn*6+2,none⟩=false∧w4.frozen? ⟨gg,nn*6+3,none⟩=false∧w4.frozen? ⟨gg,nn*6+4,none⟩=false∧w4.frozen? ⟨gg,nn*6+5,none⟩=false
 q:w4.cell? ⟨gg,nn*6,none⟩=some (.int .i64 0)∧w4.cell? ⟨gg,nn*6+1,none⟩=some (.string ⟨#[]⟩)∧w4.cell? ⟨gg,nn*6+2,none⟩=some (.int .i64 0)∧w4.cell? ⟨gg,nn*6+3,none⟩=some (.int .i64 0)∧w4.cell? ⟨gg,nn*6+4,none⟩=some (.slice none 0 0)∧w4.cell? ⟨gg,nn*6+5,none⟩=some (.int .i64 0)
theorem Zau{w w4:World}{base gb b o nn gg cap:Nat}{m T R:Value}{xs:List Value}{ob:Obj}{k n d a:Int}{nm:ByteArray}(hb:w.heap[gb]?=some (.cells #[m,T,R] 276 (0,0)))(f:w.ownsRow base 88 6 m nn xs)(E:b<base)(D:base≤w.heap.size)
  (I:w.cell? ⟨b,o,none⟩=some (.int .i64 k))(J:w.cell? ⟨b,o+1,none⟩=some (.string nm))(L:w.cell? ⟨b,o+2,none⟩=some (.int .i64 n))(M:w.cell? ⟨b,o+3,none⟩=some (.int .i64 d))(O:w.cell? ⟨b,o+5,none⟩=some (.int .i64 a))
  (g:w4.ownsRow base 88 6 (.slice (some ⟨gg,0,none⟩) (nn+1) cap) (nn+1) (xs++zEx))(F:((w.drew).alloc ob).grownBy w4 m.ownBlock)(z:m.ownBlock=some gg∨gg=w.heap.size+1):Zgw w w4 gb b o gg nn m k nm n d a:=by
 have A:=Zb hb;have C:=XQ f hb (by decide);have q:=ZdW f E;have G:gg≠gb:=by
  intro e;rcases z with h|h
  ·rw[e] at h;exact C h.symm
  omega
 have H:gg≠b:=by
  intro e;rcases z with h|h
  ·rw[e] at h;exact q h.symm
  omega
 obtain⟨⟨U,Y,Z⟩,V⟩:=X1 hb;have x:∀(bb oo:Nat),bb<w.heap.size→some bb≠m.ownBlock→w4.cell? ⟨bb,oo,none⟩=w.cell? ⟨bb,oo,none⟩:=fun bb oo h1 h2=>(F.cell_far ⟨bb,oo,none⟩ (by simp;omega) h2).trans ((Zg w.heap.size w).drew.alloc (by exact Zc _) ob |>.cell (p:=⟨bb,oo,none⟩) h1)
 have kf:∀(bb oo:Nat),bb<w.heap.size→some bb≠m.ownBlock→w4.frozen? ⟨bb,oo,none⟩=w.frozen? ⟨bb,oo,none⟩:=fun bb oo h1 h2=>(F.frozen_far ⟨bb,oo,none⟩ (by simp;omega) h2).trans ((Zg w.heap.size w).drew.alloc (by exact Zc _) ob |>.frozen (p:=⟨bb,oo,none⟩) h1)
 have v:=fun j=>g.frozenAt j
 have y:∀j,j<6→w4.cell? ⟨gg,nn*6+j,none⟩=zEx[j]?:=by
  intro j X;rw[g.cellAt _ oq,List.getElem?_append_right (by rw[f.1];omega),f.1,Nat.add_sub_cancel_left]
 refine⟨⟨⟨G,H⟩,fun e=>G e.symm,fun e=>H e.symm⟩,(x b _ oq q).trans I,(x b _ oq q).trans J,(x b _ oq q).trans L,(x b _ oq q).trans M,(x b _ oq q).trans O,(x gb _ A C).trans U,(kf gb _ A C).trans (V 0),⟨v _,v _,v _,v _,v _,v _⟩,⟨y 0 oq,y 1 oq,y 2 oq,y 3 oq,y 4 oq,y 5 oq⟩⟩
def s6(w:World)(g o:Nat)(v0 v1 v2 v3 v4 v5:Value):World:=(((((w.setCell ⟨g,o,none⟩ v0).setCell ⟨g,o+1,none⟩ v1).setCell ⟨g,o+2,none⟩ v2).setCell ⟨g,o+3,none⟩ v3).setCell ⟨g,o+4,none⟩ v4).setCell ⟨g,o+5,none⟩ v5
theorem ZcG{w:World}{base:Nat}{e:TypeId}{size g n cap:Nat}{ys:List Value}(h:w.ownsRow base e size (.slice (some ⟨g,0,none⟩) n cap) n ys)(o:Nat)(v0 v1 v2 v3 v4 v5:Value) :
  (s6 w g o v0 v1 v2 v3 v4 v5).ownsRow base e size (.slice (some ⟨g,0,none⟩) n cap) n ((((((ys.set o v0).set (o+1) v1).set (o+2) v2).set (o+3) v3).set (o+4) v4).set (o+5) v5) :=
 (((((((h.stored o v0).1).stored (o+1) v1).1.stored (o+2) v2).1.stored (o+3) v3).1.stored (o+4) v4).1.stored (o+5) v5).1
theorem GH(w:World)(g o:Nat)(m q x y z A:Value)(k:Nat)(f:k≠g):(s6 w g o m q x y z A).heap[k]?=w.heap[k]?:=by
 have j:∀(w:World)(o:Nat)(v:Value),(w.setCell ⟨g,o,none⟩ v).heap[k]?=w.heap[k]?:=fun w o v=>heap_setCell_other w ⟨g,o,none⟩ k v f
 unfold s6;simp only[j]
theorem Xr(w:World)(a:Addr)(v:Value):(w.setCell a v).os=w.os∧(w.setCell a v).tape=w.tape∧(w.setCell a v).output=w.output:=⟨rfl,rfl,rfl⟩
theorem Va(w:World)(g o:Nat)(f j m q v x:Value):(s6 w g o f j m q v x).os=w.os∧(s6 w g o f j m q v x).tape=w.tape∧(s6 w g o f j m q v x).output=w.output:=by
 unfold s6;simp only[Xr,and_self]
theorem gE(w:World)(g o:Nat)(f j m q v x:Value):(s6 w g o f j m q v x).heap.size=w.heap.size:=by simp[s6,World.setCell]
theorem Zgo{xs:List Value}{n:Nat}(G:xs.length=n*6)(z A C D E F g j m q x y:Value) :
  ((((((xs++[z,A,C,D,E,F]).set (n*6) g).set (n*6+1) j).set (n*6+2) m).set (n*6+3) q).set (n*6+4) x).set (n*6+5) y=xs++[g,j,m,q,x,y]:=by
 have e:∀(i:Nat)(l:List Value)(v:Value),(xs++l).set (n*6+i) v=xs++l.set i v:=fun i l v=>by rw[List.set_append_right _ _ oq];congr 2;omega
 have f:=e 0;simp only[Nat.add_zero] at f;rw[f,e,e,e,e,e];rfl
theorem vW{w:World}{gb mb:Nat}{vn vo:Value}(h:w.heap[gb]?=some (XM vn vo mb))(v':Value):(w.setCell ⟨gb,0,none⟩ v').heap[gb]?=some (XM v' vo mb) :=
 Zj w gb 0 _ _ v' h
theorem kS{w:World}{gb mb:Nat}{vn vo:Value}(h:w.heap[gb]?=some (XM vn vo mb))(v':Value):(w.setCell ⟨gb,1,none⟩ v').heap[gb]?=some (XM vn v' mb) :=
 Zj w gb 1 _ _ v' h
theorem k7{k:Int}{nm:ByteArray}{n d a:Int}:NmR [.int .i64 k,.string nm,.int .i64 n,.int .i64 d,.slice none 0 0,.int .i64 a] 1 :=
 ⟨by simp[Value.oneCell'],fun j hj=>by obtain rfl:j=0:=oq;exact⟨k,nm,n,d,a,rfl,rfl,rfl,rfl,rfl,rfl⟩⟩
theorem Zat{W1 w w4:World}{gb mb nn gg cap:Nat}{D:List SE}{E M:Value}{xs:List Value}{ob:Obj}(h:GW W1 gb mb nn D w)(m:w.heap[gb]?=some (XM E M mb))(f:w.ownsRow W1.heap.size 88 6 E nn xs)(G:NmR xs nn)
  (z:w4.ownsRow W1.heap.size 88 6 (.slice (some ⟨gg,0,none⟩) (nn+1) cap) (nn+1) (xs++zEx))(x:((w.drew).alloc ob).grownBy w4 E.ownBlock)(J:E.ownBlock=some gg∨gg=w.heap.size+1)(v:gg≠gb)(k:Int)(nm:ByteArray)(n d a:Int) :
  GW W1 gb mb (nn+1) D ((s6 w4 gg (nn*6) (.int .i64 k) (.string nm) (.int .i64 n) (.int .i64 d) (.slice none 0 0) (.int .i64 a)).setCell ⟨gb,0,none⟩ (.slice (some ⟨gg,0,none⟩) (nn+1) cap)) ∧
  GW W1 gb mb (nn+1) D (s6 (w4.setCell ⟨gb,0,none⟩ (.slice (some ⟨gg,0,none⟩) (nn+1) cap)) gg (nn*6) (.int .i64 k) (.string nm) (.int .i64 n) (.int .i64 d) (.slice none 0 0) (.int .i64 a)):=by
 have L:=Zb m;have O:=XQ f m (by decide);have I:∀j,j<w.heap.size→((w.drew).alloc ob).heap[j]?=w.heap[j]?:=fun j g=>Za w.drew ob j g
 have A:∀j,j<w.heap.size→E.ownBlock≠some j→w4.heap[j]?=w.heap[j]?:=fun j g q=>(x.block j (by simp;omega) (fun e=>q e.symm)).trans (I j g)
 have y:w4.heap[gb]?=some (XM E M mb):=(A gb L (fun e=>O e.symm)).trans m;have H:w.heap.size≤w4.heap.size:=by have:=x.size;simp at this;omega
 have F:∀j,j<w.heap.size→¬(j=gb∨E.ownBlock=some j)→j≠gg:=by
  intro j g q e;rcases J with h1|h1
  ·exact q (.inr (by rw[e];exact h1))
  omega
 refine⟨h.names m f ⟨?_,?_,?_,?_,fun j g q=>?_⟩ (vW ((GH w4 gg _ _ _ _ _ _ _ gb (fun e=>v e.symm)).trans y) _) (xs':=xs++[.int .i64 k,.string nm,.int .i64 n,.int .i64 d,.slice none 0 0,.int .i64 a]) ?_ (G.snoc f.1 k7) oq,
  h.names m f ⟨?_,?_,?_,?_,fun j g q=>?_⟩ ((GH _ gg _ _ _ _ _ _ _ gb (fun e=>v e.symm)).trans (vW y _)) (xs':=xs++[.int .i64 k,.string nm,.int .i64 n,.int .i64 d,.slice none 0 0,.int .i64 a]) ?_ (G.snoc f.1 k7) oq⟩
 ·exact((Xr _ _ _).1.trans (Va _ _ _ _ _ _ _ _ _).1).trans x.os
 ·exact((Xr _ _ _).2.1.trans (Va _ _ _ _ _ _ _ _ _).2.1).trans x.tape
 ·exact((Xr _ _ _).2.2.trans (Va _ _ _ _ _ _ _ _ _).2.2).trans x.output
 ·rw[show((s6 w4 gg (nn*6) (.int .i64 k) (.string nm) (.int .i64 n) (.int .i64 d) (.slice none 0 0) (.int .i64 a)).setCell ⟨gb,0,none⟩ (.slice (some ⟨gg,0,none⟩) (nn+1) cap)).heap.size=w4.heap.size by rw[←gE w4 gg (nn*6) (.int .i64 k) (.string nm) (.int .i64 n) (.int .i64 d) (.slice none 0 0) (.int .i64 a)];simp[World.setCell]];exact H
 ·rw[heap_setCell_other _ _ _ _ (show j≠gb from fun e=>q (.inl e)),GH _ _ _ _ _ _ _ _ _ _ (F j g q)];exact A j g (fun e=>q (.inr e))
 ·have:=ZcG z (nn*6) (.int .i64 k) (.string nm) (.int .i64 n) (.int .i64 d) (.slice none 0 0) (.int .i64 a);rw[zEx,Zgo f.1] at this;exact Xk this fun j g=>heap_setCell_other _ _ _ _ (fun e=>v (by have:some gg=some j:=g;injection this with this;rw[this];exact e))
 ·exact((Va _ _ _ _ _ _ _ _ _).1.trans (Xr _ _ _).1).trans x.os
 ·exact((Va _ _ _ _ _ _ _ _ _).2.1.trans (Xr _ _ _).2.1).trans x.tape
 ·exact((Va _ _ _ _ _ _ _ _ _).2.2.trans (Xr _ _ _).2.2).trans x.output
 ·rw[gE];simpa [World.setCell] using H
 ·rw[GH _ _ _ _ _ _ _ _ _ _ (F j g q),heap_setCell_other _ _ _ _ (show j≠gb from fun e=>q (.inl e))];exact A j g (fun e=>q (.inr e))
 have C:(w4.setCell ⟨gb,0,none⟩ (.slice (some ⟨gg,0,none⟩) (nn+1) cap)).ownsRow W1.heap.size 88 6 (.slice (some ⟨gg,0,none⟩) (nn+1) cap) (nn+1) (xs++zEx) :=
  Xk z fun j g=>heap_setCell_other _ _ _ _ (fun e=>v (by have:some gg=some j:=g;injection this with this;rw[this];exact e))
 have:=ZcG C (nn*6) (.int .i64 k) (.string nm) (.int .i64 n) (.int .i64 d) (.slice none 0 0) (.int .i64 a);rw[zEx,Zgo f.1] at this;exact this
def X7(b o:Nat)(k:Int)(nm:ByteArray)(n d a:Int)(w':World):Prop:=w'.cell? ⟨b,o,none⟩=some (.int .i64 k)∧w'.cell? ⟨b,o+1,none⟩=some (.string nm)∧w'.cell? ⟨b,o+2,none⟩=some (.int .i64 n)∧w'.cell? ⟨b,o+3,none⟩=some (.int .i64 d)∧w'.cell? ⟨b,o+5,none⟩=some (.int .i64 a)
theorem X7.set{b o:Nat}{k:Int}{nm:ByteArray}{n d a:Int}{w':World}(h:X7 b o k nm n d a w'){g j:Nat}(m:¬b=g)(u:Value):X7 b o k nm n d a (w'.setCell ⟨g,j,none⟩ u):=by
 have f:∀o,(w'.setCell ⟨g,j,none⟩ u).cell? ⟨b,o,none⟩=w'.cell? ⟨b,o,none⟩:=fun o=>ZG _ _ _ _ (fun e=>m e.symm)
 exact⟨(f _).trans h.1,(f _).trans h.2.1,(f _).trans h.2.2.1,(f _).trans h.2.2.2.1,(f _).trans h.2.2.2.2⟩
theorem X7.drew{b o:Nat}{k:Int}{nm:ByteArray}{n d a:Int}{w':World}(h:X7 b o k nm n d a w'):X7 b o k nm n d a w'.drew:=h
theorem X7.alloc{b o:Nat}{k:Int}{nm:ByteArray}{n d a:Int}{w':World}(h:X7 b o k nm n d a w')(ob:Obj):X7 b o k nm n d a (w'.alloc ob):=by
 have hb:b<w'.heap.size:=World.block_lt_of_cell? w' ⟨b,o,none⟩ h.1;have f:∀o,(w'.alloc ob).cell? ⟨b,o,none⟩=w'.cell? ⟨b,o,none⟩:=fun o=>World.cell?_alloc_lt _ _ _ hb
 exact⟨(f _).trans h.1,(f _).trans h.2.1,(f _).trans h.2.2.1,(f _).trans h.2.2.2.1,(f _).trans h.2.2.2.2⟩
theorem Zb7{W1 w:World}{gb mb nn:Nat}{ae:List SE}(h:GW W1 gb mb nn ae w){b o:Nat}{e:PE}(he:JK W1 b o e)(hk:e.k=11)(hn:nn≤60000000000) :
  Calls prog 180 #[.pointer (some ⟨gb,0,none⟩),.pointer (some ⟨b,o,none⟩)] w fun x w'=>x=.returned (.tuple #[])∧GW W1 gb mb (nn+1) ae w':=by
 obtain⟨vn,vo,xs,D,I,O,ab⟩:=h.sta;have HL:=hid h.low;have HM:=hid h.map;have ap:=h.hgb;have aq:=h.hmb;have HS:=hid h.stk;have T:=hid I;have an:=hid O;have ao:=hid ab;have HG:=hid D;obtain⟨⟨g0,g1,g2⟩,gf⟩:=X1 D;obtain⟨k,E,n,d,args,a⟩:=e;obtain⟨M,af,c0,c1,c2,c3,c5,⟨ad,cap,c4,_⟩,_⟩:=he;simp only at hk c0 c1 c2 c3 c5 c4;subst hk;have R:=fun o=>h.low.cell (p:=⟨b,o,none⟩) M
 have d0:=(R o).trans c0;have d1:=(R (o+1)).trans c1;have d2:=(R (o+2)).trans c2;have d3:=(R (o+3)).trans c3;have d5:=(R (o+5)).trans c5;have ac:=h.low.size;have ag:=Zb D;obtain⟨i0,V,X,Y,Z⟩:=VF ZbM;have L:=hid (Zh V (Zh X (Zh Y Z)));obtain⟨ln,cn,ai⟩:∃ad cn,vn=.slice ad nn cn:=by
  rcases I.2 with ⟨h1,h2⟩|⟨g,cap,cur,h1,_⟩
  ·exact⟨none,0,by rw[h1,h2]⟩
  exact⟨_,cap,h1⟩
 subst ai;have U:=hid (fun(w4:World) (gg cap:Nat) hown hg hat=>Zau (w4:=w4) (gg:=gg) (cap:=cap) (ob:=.cells #[.int .i64 0,.string ⟨#[]⟩,.int .i64 0,.int .i64 0,.slice none 0 0,.int .i64 0] 88) D I M ac d0 d1 d2 d3 d5 hown hg hat);have J:=hid (fun(w4:World) (gg cap:Nat) hown hg hat G=>Zat (w4:=w4) (gg:=gg) (cap:=cap) (ob:=.cells #[.int .i64 0,.string ⟨#[]⟩,.int .i64 0,.int .i64 0,.slice none 0 0,.int .i64 0] 88) h D I O hown hg hat G 11 E n d a);clear h V X Y Z R c0 c1 c2 c3 c4 c5 I O ab D af;have al:(0:Int)≤(nn:Int):=oq;have am:(nn:Int)<(nn:Int)+1:=oq;have HB:=hid (Zh hn (Zh ag (Zh M ac)));clear hn;go_enter func180,ntmps180;go_wp2;have KA:=hid (show X7 b o 11 E n d a w from ⟨d0,d1,d2,d3,d5⟩);have hbgb:¬b=gb:=oq;clear d0 d1 d2 d3 d5;refine ZO (S:=fun w'=>w'.cell? ⟨b,o,none⟩=some (.int .i64 11)∧w'.cell? ⟨b,o+1,none⟩=some (.string E)∧w'.cell? ⟨b,o+2,none⟩=some (.int .i64 n)∧w'.cell? ⟨b,o+3,none⟩=some (.int .i64 d)∧w'.cell? ⟨b,o+5,none⟩=some (.int .i64 a)) kq (by(show X7 b o 11 E n d a _;repeat (first|with_reducible exact KA.out|with_reducible exact KC.out|with_reducible refine X7.drew ?_|with_reducible refine X7.alloc ?_ _|(with_reducible refine X7.set ?_ hbn _)|(with_reducible refine X7.set ?_ hbgb _)))) (fun hHeld=>?_);refine tk 0 (by assumption) ?_;refine tk 1 (by assumption) ?_;refine tk 2 (by assumption) ?_;refine tk 4 (by assumption) ?_;refine tk 5 (by assumption) ?_;refine tk 6 (by assumption) ?_;refine tk 7 (by assumption) ?_;refine tk 8 (by assumption) ?_;refine tk 9 (by assumption) ?_;refine tk 10 (by assumption) ?_;refine tk 11 (by assumption) ?_;refine tk 12 (by assumption) ?_;refine tk 13 (by assumption) ?_;refine tk 14 (by assumption) ?_;refine tk 15 (by assumption) ?_;refine tk 16 (by assumption) ?_;refine tk 17 (by assumption) ?_;refine tk 18 (by assumption) ?_;refine tk 19 (by assumption) ?_;refine tk 20 (by assumption) ?_;refine tk 21 (by assumption) ?_;refine tk 22 (by assumption) ?_;refine tk 23 (by assumption) ?_;refine tk 24 (by assumption) ?_;refine rz 3 26 (fun K hK=>?_) fun K hK=>?_
 ·go_simp;refine hK.out _ _ (fun hHeld=>?_) (by show X7 b o 11 E n d a _;exact sq);clear hK K;refine tk 25 (by assumption) ?_;refine ry 26 fun K hK=>?_
  go_simp;refine hK.out _ _ (fun hHeld=>?_) (by show X7 b o 11 E n d a _;exact sq);clear hK K;refine ry 27 fun K hK=>?_
  (refine step_append_lies _ (by rfl) _ _ _ (by rfl) W1.heap.size 88 i0 _ 6 72 underlying86 L.out.1 L.out.2.1 L.out.2.2.1 L.out.2.2.2 rfl oq (.slice ln nn cn) nn xs (by rfl) (T.out.drew.alloc _) ⟨w.heap.size,0,none⟩ 1 1 zEx (by rfl) (by rfl) (World.news_of_block (Zz w.drew _)) (by simp[Value.oneCell',zEx]) oq (by have:=HB.out.1;unfold maxLen;omega) (by have:=HB.out.1;omega) (by have:=HB.out.2.2.2;simp;omega) (w.heap.size+1) (by simp) ?_;intro gg cap w4 m j C aa;have A:=U.out w4 gg cap m j C;have z:=hid m;have y:=hid j;have F:=hid C;clear m j C;have KC:=hid (show X7 b o 11 E n d a w4 from ⟨A.c0,A.c1,A.c2,A.c3,A.c5⟩);obtain⟨f0,f1,f2,f3,f4,f5⟩:=A.f;obtain⟨q0,q1,q2,q3,q4,q5⟩:=A.q;have ak:=A.gf;have aj:=A.g0;obtain⟨G,ah,hbn⟩:=A.ne;have H:=hid G.1;clear G A)
  refine hK.out _ _ (fun hHeld=>?_) (by show X7 b o 11 E n d a _;exact sq);clear hK K;refine tk 28 (by assumption) ?_;refine tk 30 (by assumption) ?_;refine tk 31 (by assumption) ?_;refine rz 29 32 (fun K hK=>?_) fun K hK=>?_
  ·go_simp;refine hK.out _ _ (fun hHeld=>?_) (by show X7 b o 11 E n d a _;exact sq);clear hK K;refine ry 32 fun K hK=>?_
   go_simp;refine hK.out _ _ (fun hHeld=>?_) (by show X7 b o 11 E n d a _;exact sq);clear hK K;refine Zy kq ?_ _
   (go_wp2;refine Zl (v:=.tuple #[]) ?_ rfl ?_;(focus (simp[results,results180]));exact⟨rfl,(J.out _ _ _ z.out y.out F.out H.out).1⟩)
  go_simp;refine hK.out _ _ (fun hHeld=>?_) (by show X7 b o 11 E n d a _;exact sq);clear hK K;refine ry 29 fun K hK=>?_
  go_simp;refine hK.out _ _ (fun hHeld=>?_) (by show X7 b o 11 E n d a _;exact sq);clear hK K;refine Zy kq ?_ _
  (go_wp2;refine Zl (v:=.tuple #[]) ?_ rfl ?_;(focus (simp[results,results180]));exact⟨rfl,(J.out _ _ _ z.out y.out F.out H.out).2⟩)
 go_simp;refine hK.out _ _ (fun hHeld=>?_) (by show X7 b o 11 E n d a _;exact sq);clear hK K;refine ry 3 fun K hK=>?_
 go_simp;refine hK.out _ _ (fun hHeld=>?_) (by show X7 b o 11 E n d a _;exact sq);clear hK K;refine tk 25 (by assumption) ?_;refine ry 27 fun K hK=>?_
 (refine step_append_lies _ (by rfl) _ _ _ (by rfl) W1.heap.size 88 i0 _ 6 72 underlying86 L.out.1 L.out.2.1 L.out.2.2.1 L.out.2.2.2 rfl oq (.slice ln nn cn) nn xs (by rfl) (T.out.drew.alloc _) ⟨w.heap.size,0,none⟩ 1 1 zEx (by rfl) (by rfl) (World.news_of_block (Zz w.drew _)) (by simp[Value.oneCell',zEx]) oq (by have:=HB.out.1;unfold maxLen;omega) (by have:=HB.out.1;omega) (by have:=HB.out.2.2.2;simp;omega) (w.heap.size+1) (by simp) ?_;intro gg cap w4 m j C aa;have A:=U.out w4 gg cap m j C;have z:=hid m;have y:=hid j;have F:=hid C;clear m j C;have KC:=hid (show X7 b o 11 E n d a w4 from ⟨A.c0,A.c1,A.c2,A.c3,A.c5⟩);obtain⟨f0,f1,f2,f3,f4,f5⟩:=A.f;obtain⟨q0,q1,q2,q3,q4,q5⟩:=A.q;have ak:=A.gf;have aj:=A.g0;obtain⟨G,ah,hbn⟩:=A.ne;have H:=hid G.1;clear G A)
 refine hK.out _ _ (fun hHeld=>?_) (by show X7 b o 11 E n d a _;exact sq);clear hK K;refine tk 28 (by assumption) ?_;refine tk 30 (by assumption) ?_;refine tk 31 (by assumption) ?_;refine rz 29 32 (fun K hK=>?_) fun K hK=>?_
 ·go_simp;refine hK.out _ _ (fun hHeld=>?_) (by show X7 b o 11 E n d a _;exact sq);clear hK K;refine ry 32 fun K hK=>?_
  go_simp;refine hK.out _ _ (fun hHeld=>?_) (by show X7 b o 11 E n d a _;exact sq);clear hK K;refine Zy kq ?_ _
  (go_wp2;refine Zl (v:=.tuple #[]) ?_ rfl ?_;(focus (simp[results,results180]));exact⟨rfl,(J.out _ _ _ z.out y.out F.out H.out).1⟩)
 go_simp;refine hK.out _ _ (fun hHeld=>?_) (by show X7 b o 11 E n d a _;exact sq);clear hK K;refine ry 29 fun K hK=>?_
 go_simp;refine hK.out _ _ (fun hHeld=>?_) (by show X7 b o 11 E n d a _;exact sq);clear hK K;refine Zy kq ?_ _
 (go_wp2;refine Zl (v:=.tuple #[]) ?_ rfl ?_;(focus (simp[results,results180]));exact⟨rfl,(J.out _ _ _ z.out y.out F.out H.out).2⟩)
theorem Zb6{W1 w:World}{gb mb nn:Nat}{m:List SE}(h:GW W1 gb mb nn m w){b o:Nat}{e:PE}(A:JK W1 b o e)(g:e.k≠11)(q:e.args=.nil) :
  Calls prog 180 #[.pointer (some ⟨gb,0,none⟩),.pointer (some ⟨b,o,none⟩)] w fun x w'=>x=.returned (.tuple #[])∧w'=w:=by
 obtain⟨k,G,n,d,args,a⟩:=e;obtain⟨j,C,c0,c1,c2,c3,y,⟨E,cap,c4,_⟩,_⟩:=A;simp only at g c0 c4 q;subst q;have f:=fun o=>h.low.cell (p:=⟨b,o,none⟩) j
 have F:=(f o).trans c0;have z:=(f (o+4)).trans c4;have D:(k == 11)=false:=ZY.2 g;simp only[PL.len] at z;clear h f c0 c1 c2 c3 c4 y g;go_enter func180,ntmps180;go_wp2;refine Zl (v:=.tuple #[]) ?_ rfl ?_
 ·simp[results,results180]
 exact⟨rfl,rfl⟩
theorem EW{P:Program}(w:World)(base:Nat)(t F e:TypeId)(i:TypeInfo)(z:Value)(size bytes:Nat)(ht:P.underlying t=some (.slice e))(hi:P.info? e=some i)(hz:i.zero=some z)
  (D:i.size=size)(I:i.bytes=bytes)(R:z.cells.size=size)(M:0<size)
  (v:Value)(n:Nat)(xs:List Value)(q:w.ownsRow base e size v n xs)
  (G:Option Addr)(m c:Nat)(news:List Value)(J:news.length=m*size)(f:∀j u,news[j]?=some u→∃x:Addr,G=some x∧w.cell? (x.add j)=some u)(T:∀u∈news,u.oneCell'=true)
  (H:n+m≤maxLen)(A:(n+m)*bytes≤140737488355328)(C:base≤w.heap.size) :
  ∃v' w',(Builtin.append_ #[t,t] F #[v,.slice G m c]).run P w=.ok v' w'∧w'.ownsRow base e size v' (n+m) (xs++news)∧w.grownBy w' v.ownBlock∧(v'.ownBlock=v.ownBlock∨v'.ownBlock=some w.heap.size):=by
 cases G with
 | some a =>
  obtain⟨v',w',hr,U,V,_,X⟩:=run_append_own_at (P:=P) w base t F e i z size bytes ht hi hz D I R M v n xs q a m c news J (fun j u h=>by obtain⟨x,O,Y⟩:=f j u h;cases O;exact Y) T H A C;exact⟨v',w',hr,U,V,X⟩
 | none =>
  have Z:m=0:=by
   cases news with
   | nil =>
    have h:m*size=0:=J.symm;rcases Nat.mul_eq_zero.1 h with h|h
    ·exact h
    omega
   | cons u us=>obtain⟨x,O,_⟩:=f 0 u rfl;cases O
  subst Z;obtain rfl:news=[]:=by simpa using J
  have key:∀(b:Option Addr)(k E:Nat),k≤E→(Builtin.append_ #[t,t] F #[.slice b k E,.slice none 0 c]).run P w=.ok (.slice b k E) w:=by
   intro b k E L;refine run_append_nothing w t t F e i ht hi b k E L _ ⟨.inl ⟨_,ht⟩,?_,?_,?_,by simp,by simp⟩
   ·intro w';simp[Builtin.lenOf]
   ·simp[Builtin.firstCells]
   simp[Builtin.firstCells]
  have y:=q;rcases q.2 with ⟨rfl,rfl⟩|⟨g,cap,cur,rfl,hb,hg,hnc,hcm,hcs,htk⟩
  ·refine⟨_,w,key _ _ _ (Zc _),by simpa using y,World.grownBy.refl _ _,.inl rfl⟩
  refine⟨_,w,key _ _ _ hnc,by simpa using y,World.grownBy.refl _ _,.inl rfl⟩
theorem Qo{P:Program}(w:World){ops:Array Oper}{o:Oper}{a:Act}{K:Act→World→Prop}{Q:Exit→Act→World→Prop}{E:Prop}(hgd:o.guard=none)(s x:Operand)(t:TypeId)
  (R:o.op=.call { callee:=.builtin .append,args:=#[s,x],argTypes:=#[t,t] })
  (base:Nat)(e:TypeId)(i:TypeInfo)(z:Value)(size bytes:Nat)(ht:P.underlying t=some (.slice e))(hi:P.info? e=some i)(Y:i.zero=some z)
  (y:i.size=size)(F:i.bytes=bytes)(H:z.cells.size=size)(G:0<size)
  (v:Value)(n:Nat)(xs:List Value)(U:a.eval s=v)(A:w.ownsRow base e size v n xs)
  (C:Option Addr)(m c:Nat)(news:List Value)(X:a.eval x=.slice C m c)(O:news.length=m*size)(q:∀j u,news[j]?=some u→∃x:Addr,C=some x∧w.cell? (x.add j)=some u)(I:∀u∈news,u.oneCell'=true)
  (D:n+m≤maxLen)(f:(n+m)*bytes≤140737488355328)(g:base≤w.heap.size)
  (h:∀v' w',w'.ownsRow base e size v' (n+m) (xs++news)→w.grownBy w' v.ownBlock→(v'.ownBlock=v.ownBlock∨v'.ownBlock=some w.heap.size)→K (a.put o.dst v') w') :
  if Region.wanted o (yielded ops a.tmps)=true then Oper.wp P o a w K Q else E:=by
 have V:Region.wanted o (yielded ops a.tmps)=true:=by simp[Region.wanted,hgd]
 rw[Z2 V];obtain⟨v',w',T,J,L,M⟩:=EW (P:=P) w base t o.type e i z size bytes ht hi Y y F H G v n xs A C m c news O q I D f g;unfold Oper.wp execOp;simp only[R,resolve,invoke,builtin,Sem.run_bind,Sem.run_pure,ZP,List.map_toArray,List.map_cons,List.map_nil,U,X,T];exact h v' w' J L M
theorem GW.same{W1 w w':World}{gb mb nn:Nat}{m:List SE}(h:GW W1 gb mb nn m w)(f:Below w.heap.size w w'):GW W1 gb mb nn m w':=by
 obtain⟨x,y,z,g,j,q,v⟩:=h.sta;exact h.names g j ⟨f.os,f.tape,f.output,f.size,fun k hk _=>f.block k hk⟩ ((f.block gb (Zb g)).trans g) (Xk j fun k hk=>f.block k (j.lt k hk).2) q (Zc _)
theorem Qn{w:World}{base:Nat}{e:TypeId}{size:Nat}{v:Value}{n:Nat}{xs:List Value}(h:w.ownsRow base e size v n xs):∃ad c,v=.slice ad n c:=by
 rcases h.2 with ⟨h1,h2⟩|⟨g,cap,cur,h1,_⟩
 ·exact⟨none,0,by rw[h1,h2]⟩
 exact⟨_,cap,h1⟩
theorem xg{w:World}{base:Nat}{e:TypeId}{size:Nat}{f:Option Addr}{c n:Nat}{xs:List Value}(h:w.ownsRow base e size (.slice f n c) n xs):n≤c:=by
 rcases h.2 with ⟨h1,h2⟩|⟨g,cap,cur,h1,_,_,h2,_⟩
 ·omega
 injection h1 with _ _ h1;omega
theorem qY{w:World}{base:Nat}{e:TypeId}{size:Nat}{a:Addr}{c n:Nat}{xs:List Value}(h:w.ownsRow base e size (.slice (some a) n c) n xs):∃g,a=⟨g,0,none⟩:=by
 rcases h.2 with ⟨h1,h2⟩|⟨g,cap,cur,h1,_⟩
 ·cases h1
 injection h1 with h1 _ _;injection h1 with h1;exact⟨g,h1⟩
theorem Ux{W1 w:World}{gb mb nn:Nat}{f:List SE}{x y:Value}(h:GW W1 gb mb nn f w)(z:w.heap[gb]?=some (XM x y mb)):(∃xs,w.ownsRow W1.heap.size 88 6 x nn xs∧NmR xs nn)∧w.ownsRow W1.heap.size 289 3 y f.length (UF f):=by
 obtain⟨A,C,v,g,m,j,q⟩:=h.sta;have e:=z.symm.trans g;simp only[XM,Option.some.injEq,Obj.cells.injEq,Array.mk.injEq,List.cons.injEq,and_true,true_and] at e;obtain⟨rfl,rfl⟩:=e;exact⟨⟨v,m,j⟩,q⟩
theorem Ze6{W1 w w2 w3:World}{gb mb nn:Nat}{y:List SE}{z A:Value}{ob:Obj}(h:GW W1 gb mb nn y w)(g:w.heap[gb]?=some (XM z A mb))(hb:Below w.heap.size w w2)(x:Upon mb (w2.alloc ob) w3)(I:Vv w3 mb (GR W1) (PcV nn))(J:mb<w.heap.size) :
  GW W1 gb mb nn y w3∧w3.heap[gb]?=some (XM z A mb):=by
 have D:=h.map;obtain⟨arr,clock,q,_⟩:=D;have hb2:Below w.heap.size w (w2.alloc ob):=hb.alloc hb.size _;have f:∀k,k<w.heap.size→k≠mb→w3.heap[k]?=w.heap[k]?:=fun k f hne=>(x.block k (Zd f hb2.size) hne).trans (hb2.block k f)
 have m:=h.low.size;have j:w3.heap[gb]?=some (XM z A mb):=(f gb (Zb g) (fun e=>by rw[e,q] at g;cases g)).trans g;obtain⟨⟨C,F,E⟩,G⟩:=Ux h g;have H:∀{e:TypeId}{size n:Nat}{v:Value}{C:List Value},w.ownsRow W1.heap.size e size v n C→w3.ownsRow W1.heap.size e size v n C:=fun h=>Xk h fun k hk2=>f k (h.lt k hk2).2 (fun e=>Uw h (b:=mb) (fun cur e2=>by rw[q] at e2;cases e2) (by rw[←e];exact hk2))
 refine⟨⟨⟨x.os.trans (hb2.os.trans h.low.os),x.tape.trans (hb2.tape.trans h.low.tape),x.output.trans (hb2.output.trans h.low.output),Zm m (Zm hb2.size x.size),fun k hk1=>(f k oq (by have:=h.hmb;omega)).trans (h.low.block k hk1)⟩,h.hgb,h.hmb,⟨z,A,C,j,H F,E,H G⟩,I,h.stk⟩,j⟩
def SG(gb:Nat)(v:Value)(w':World):Prop:=w'.cell? ⟨gb,0,none⟩=some v
theorem SG.drew{gb:Nat}{v:Value}{w':World}(h:SG gb v w'):SG gb v w'.drew:=h
theorem SG.alloc{gb:Nat}{v:Value}{w':World}(h:SG gb v w')(ob:Obj):SG gb v (w'.alloc ob):=by
 have hb:gb<w'.heap.size:=World.block_lt_of_cell? w' ⟨gb,0,none⟩ h;exact(World.cell?_alloc_lt _ _ _ hb).trans h
theorem SG.set1{gb:Nat}{v:Value}{w':World}(h:SG gb v w')(u:Value):SG gb v (w'.setCell ⟨gb,1,none⟩ u):=(World.cell?_setCell_other w' ⟨gb,1,none⟩ ⟨gb,0,none⟩ u (fun e=>by injection e with _ e _;cases e)).trans h
def SP(pb f t:Nat)(w':World):Prop:=w'.cell? ⟨pb,0,none⟩=some (.int .i64 (f:Int))∧w'.cell? ⟨pb,1,none⟩=some (.int .i64 (t:Int))
theorem SP.drew{pb f t:Nat}{w':World}(h:SP pb f t w'):SP pb f t w'.drew:=h
theorem SP.set{pb f t:Nat}{w':World}(h:SP pb f t w'){g j:Nat}(hg:¬pb=g)(u:Value):SP pb f t (w'.setCell ⟨g,j,none⟩ u) :=
 ⟨(ZG _ _ _ _ (fun e=>hg e.symm)).trans h.1,(ZG _ _ _ _ (fun e=>hg e.symm)).trans h.2⟩
theorem ux{W1 w w4:World}{gb mb nn gg cap b o:Nat}{f:List SE}{F y:Value}{e:PE}{ob:Obj}(h:GW W1 gb mb nn f w)(m:w.heap[gb]?=some (XM F y mb))(V:JK W1 b o e)
  (E:w4.ownsRow W1.heap.size 289 3 (.slice (some ⟨gg,0,none⟩) (f.length+1) cap) (f.length+1) (UF f++[.pointer (some ⟨b,o,none⟩),.int .i64 0,.int .i64 nn]))(C:((w.drew).alloc ob).grownBy w4 y.ownBlock)(H:y.ownBlock=some gg∨gg=w.heap.size+1) :
  w4.cell? ⟨gb,0,none⟩=some F∧w4.cell? ⟨gb,1,none⟩=some y∧w4.frozen? ⟨gb,1,none⟩=false∧∀ar:UG e,GW W1 gb mb nn (f++[⟨b,o,0,nn,e⟩]) (w4.setCell ⟨gb,1,none⟩ (.slice (some ⟨gg,0,none⟩) (f.length+1) cap)):=by
 obtain⟨⟨Z,q,O⟩,v⟩:=Ux h m;have I:=Zb m;have R:=XQ v m (by decide);have G:∀j,j<w.heap.size→((w.drew).alloc ob).heap[j]?=w.heap[j]?:=fun j hj=>Za w.drew ob j hj
 have A:∀j,j<w.heap.size→y.ownBlock≠some j→w4.heap[j]?=w.heap[j]?:=fun j hj hn=>(C.block j (by simp;omega) (fun e=>hn e.symm)).trans (G j hj)
 have x:w4.heap[gb]?=some (XM F y mb):=(A gb I (fun e=>R e.symm)).trans m;obtain⟨⟨c0,c1,c2⟩,U⟩:=X1 x;have Y:w.heap.size≤w4.heap.size:=by have:=C.size;simp at this;omega
 have J:=h.map.lt;obtain⟨arr,clock,D,_⟩:=id h.map;have M:gg≠gb:=by
  intro e;rcases H with h1|h1
  ·rw[e] at h1;exact R h1.symm
  omega
 have z:∀j,j<w.heap.size→j≠gb→y.ownBlock≠some j→(w4.setCell ⟨gb,1,none⟩ (.slice (some ⟨gg,0,none⟩) (f.length+1) cap)).heap[j]?=w.heap[j]?:=fun j hj hn1 hn2=>(heap_setCell_other _ _ _ _ (show j≠gb from hn1)).trans (A j hj hn2)
 have L:y.ownBlock≠some mb:=Uw v (b:=mb) (fun cur e2=>by rw[D] at e2;cases e2);have T:=h.low.size;refine⟨c0,c1,U 1,fun ar=>⟨⟨?_,?_,?_,?_,fun k hk=>?_⟩,h.hgb,h.hmb,⟨F,_,Z,kS x _,?_,O,?_⟩,h.map.keep (z mb J (fun e=>by rw[←e,D] at m;cases m) L) (fun _ h=>h),fun s hs=>?_⟩⟩
 ·exact(Xr _ _ _).1.trans (C.os.trans h.low.os)
 ·exact(Xr _ _ _).2.1.trans (C.tape.trans h.low.tape)
 ·exact(Xr _ _ _).2.2.trans (C.output.trans h.low.output)
 ·simp[World.setCell];omega
 ·have:=h.hgb;exact(z k oq oq (fun e=>by have:=(v.lt k e).1;omega)).trans (h.low.block k hk)
 ·refine Xk q fun k hk=>z k (q.lt k hk).2 (fun e=>XQ q m (by decide) (by rw[←e];exact hk.symm)) (fun e=>?_)
  rcases v.2 with ⟨h1,_⟩|⟨g,cap2,cur,h1,_,hgo,_⟩
  ·rw[h1] at e;cases e
  rw[h1] at e;injection e with e
  have e:g=k:=e;subst e;exact XQ q hgo (by decide) hk.symm
 ·have X:(f++[(⟨b,o,0,nn,e⟩:SE)]).length=f.length+1:=by simp
  rw[X,Q7];exact Xk E fun j hj=>heap_setCell_other _ _ _ _ (fun e=>M (by have:some gg=some j:=hj;injection this with this;rw[this];exact e))
 rcases List.mem_append.1 hs with hs|hs
 ·exact h.stk s hs
 rw[List.mem_singleton.1 hs];exact⟨V,Zk _,Zc _,ar⟩
theorem Zaw{w:World}{base nn y f t:Nat}{v:Option Addr}{xs:List Value}(h:w.ownsRow base 88 6 (.slice v nn y) nn xs)(q:NmR xs nn)(z:f≤t∧t≤nn) :
  ((xs.drop (f*6)).take ((t-f)*6)).length=(t-f)*6∧(∀j u,((xs.drop (f*6)).take ((t-f)*6))[j]?=some u→∃x:Addr,(match v with|none=>none|some a=>if y=f then some ⟨a.block,0,none⟩ else some ⟨a.block,f*6,none⟩)=some x∧w.drew.cell? (x.add j)=some u)∧∀u∈(xs.drop (f*6)).take ((t-f)*6),u.oneCell'=true:=by
 have D:=h.1;refine⟨by simp;omega,fun j u hu=>?_,fun u hu=>q.1 u (List.mem_of_mem_drop (List.mem_of_mem_take hu))⟩;have A:j<(t-f)*6:=by
  rcases Nat.lt_or_ge j ((t-f)*6) with h|h
  ·exact h
  rw[Yc (by simp;omega)] at hu;cases hu
 rw[Yo A,List.getElem?_drop] at hu;have C:=xg h
 cases v with
 | none =>
  rcases h.2 with ⟨m,h2⟩|⟨g,cap,cur,m,_⟩
  ·omega
  cases m
 | some a =>
  obtain⟨g,rfl⟩:=qY h;refine⟨⟨g,f*6,none⟩,by simp only;rw[Z1 oq],?_⟩;have:=h.cellAt (f*6+j) oq;rw[show(⟨g,f*6,none⟩:Addr).add j=⟨g,f*6+j,none⟩ by unfold Addr.add;by_cases m:j=0<;>simp[m]];exact this.trans hu
theorem qK{W1 w w4:World}{gb mb nn J f t:Nat}{F:List SE}{z M v':Value}{xs:List Value}(h:GW W1 gb mb nn F w)(m:w.heap[gb]?=some (XM z M mb))(g:w.ownsRow W1.heap.size 88 6 z nn xs)(D:NmR xs nn)
  (y:w.heap[J]?=some (.cells #[.int .i64 f,.int .i64 t] 286 (0,0)))(A:f≤t∧t≤nn)(E:w4.ownsRow W1.heap.size 88 6 v' (nn+(t-f)) (xs++(xs.drop (f*6)).take ((t-f)*6)))(C:(w.drew).grownBy w4 z.ownBlock)(G:v'.ownBlock=z.ownBlock∨v'.ownBlock=some (w.drew).heap.size) :
  SP J f t w4∧w4.cell? ⟨gb,0,none⟩=some z∧w4.frozen? ⟨gb,0,none⟩=false∧GW W1 gb mb (nn+(t-f)) F (w4.setCell ⟨gb,0,none⟩ v'):=by
 have H:=Zb m;have L:=XQ g m (by decide);have R:=XQ g y (by decide);have x:∀j,j<w.heap.size→z.ownBlock≠some j→w4.heap[j]?=w.heap[j]?:=fun j hj hn=>C.block j (by simpa using hj) (fun e=>hn e.symm)
 have q:w4.heap[gb]?=some (XM z M mb):=(x gb H (fun e=>L e.symm)).trans m;have v:=(x J (Zb y) (fun e=>R e.symm)).trans y;obtain⟨⟨c0,c1,c2⟩,O⟩:=X1 q;have I:w.heap.size≤w4.heap.size:=by have:=C.size;simpa using this
 refine⟨⟨by simp[World.cell?,v],by simp[World.cell?,v]⟩,c0,O 0,h.names m g ⟨?_,?_,?_,?_,fun j hj hn=>?_⟩ (vW q _) ?_ (D.snoc g.1 (D.part g.1 A.1 A.2)) oq⟩
 ·exact(Xr _ _ _).1.trans C.os
 ·exact(Xr _ _ _).2.1.trans C.tape
 ·exact(Xr _ _ _).2.2.trans C.output
 ·simp[World.setCell];exact I
 ·exact(heap_setCell_other _ _ _ _ (show j≠gb from fun e=>hn (.inl e))).trans (x j hj (fun e=>hn (.inr e)))
 refine Xk E fun j hj=>heap_setCell_other _ _ _ _ (fun e=>?_)
 have e:j=gb:=e;rw[e] at hj;rcases G with h1|h1
 ·exact L (hj.symm.trans h1)
 rw[hj] at h1;injection h1 with h1
 simp at h1;omega
theorem Zgj{nn:Nat}{u:Value}{b:Bool}(hy:b=true→PcV nn u)(q:b=false→u=.agg #[.int .i64 0,.int .i64 0]):∃f t:Nat,u=.agg #[.int .i64 (f:Int),.int .i64 (t:Int)]∧(f≤t∧t≤nn):=by
 cases b with
 | true=>obtain⟨f,t,g,j,m⟩:=hy rfl;exact⟨f,t,g,j,m⟩
 | false=>exact⟨0,0,q rfl,Zc _,Zk _⟩
theorem Zak{W1 w:World}{gb mb nn:Nat}{E:List SE}(h:GW W1 gb mb nn E w){b o:Nat}{e:PE}(he:JK W1 b o e)(hk:e.k≠11)(hl:e.args.len≠0)(hn:nn≤60000000000)(am:E.length≤1000)(aq:UG e) :
  Calls prog 180 #[.pointer (some ⟨gb,0,none⟩),.pointer (some ⟨b,o,none⟩)] w fun x w'=>x=.returned (.tuple #[])∧((∃m,m≤2*nn∧GW W1 gb mb m E w')∨GW W1 gb mb nn (E++[⟨b,o,0,nn,e⟩]) w'):=by
 obtain⟨vn,vo,xs,R,ay,ax,az⟩:=h.sta;have ah:=hid h;have HM:=hid h.map;have ai:=hid (fun v hv=>GR.ptr h.low v hv);have al:=hid (he.ptr h.low);have HE:=hid he;have bi:=h.hgb;have bn:=h.hmb;have aj:=hid ay;have bc:=hid ax;have Z:=hid az;have HG:=hid R;obtain⟨⟨g0,g1,g2⟩,gf⟩:=X1 R;obtain⟨k,nm,n,d,args,a⟩:=e;obtain⟨be,bd,c0,c1,c2,c3,c5,⟨ad,cap,c4,_⟩,_⟩:=he;simp only at hk c0 c4 hl;have hc:=fun o=>h.low.cell (p:=⟨b,o,none⟩) be
 have d0:=(hc o).trans c0;have d4:=(hc (o+4)).trans c4;have bl:(k == 11)=false:=ZY.2 hk;have bm:((args.len:Int) == 0)=false:=ZY.2 oq;have bo:=h.low.size;have ar:=Zb R;have aw:=h.map.lt;clear h hc c0 c1 c2 c3 c4 c5 hk hl ay ax az R bd;go_enter func180,ntmps180;go_wp2_with (first|(at_lookup;refine xC KR _ rfl _ _ rfl mb (GR W1) (PcV nn) _ rfl rfl HM.out ai.out al.out ?_;intro u bb w2 hy hz ae hb2;obtain⟨f,t,rfl,U⟩:=Zgj hy hz;have A:=hid U;clear hy hz U;have HB2:=hid hb2;obtain⟨⟨p0,p1,p2⟩,pf⟩:=X1 ((hb2.block _ ar).trans HG.out);clear hb2;cases bb)|(at_mapUpdate;refine Gn KR _ rfl _ _ _ rfl mb (GR W1) (PcV nn) _ (.agg #[.int .i64 0,.int .i64 0]) rfl rfl rfl (HM.out.keep (by exact(Za _ _ _ oq).trans (HB2.out.block _ aw)) (fun _ h=>h)) (fun v hv=>(ai.out v hv).keep (fun b cs t fr hb=>⟨cs,(Za _ _ _ (by have:=Zb hb;omega)).trans ((HB2.out.block _ (Zb hb)).trans hb)⟩)) ⟨b,o,_,rfl,HE.out⟩ ⟨0,0,rfl,Zc _,Zk _⟩ ?_;intro w3 ba bf av;have ap:=hid ba;have ao:=hid av;clear ba av))
 ·obtain⟨C,G⟩:=Ze6 ah.out HG.out HB2.out ap.out ao.out aw;have H:=C.low;obtain⟨lo,co,bg⟩:∃ad co,vo=.slice ad E.length co:=Qn Z.out;subst bg;obtain⟨L,z,an⟩:∃ad z,vn=.slice ad nn z:=Qn aj.out;subst an;have Z:=hid (Ux C G).2;obtain⟨⟨q0,q1,q2⟩,qf⟩:=X1 G;obtain⟨i0,ab,V,X,Y⟩:=VF Ze7;have D:=hid (Zh ab (Zh V (Zh X Y)));have aa:=Zb G;have HB:=hid (Zh am (Zh aa H.size));have KA:=hid (show SG gb (.slice L nn z) w3 from q0);have M:=hid (fun(w4:World) (gg cap:Nat) hown hg hat=>ux (w4:=w4) (gg:=gg) (cap:=cap) (ob:=.cells #[.pointer (some ⟨b,o,none⟩),.int .i64 0,.int .i64 nn] 289) C G HE.out hown hg hat);clear C G H ab V X Y p0 p1 p2 pf g0 g1 g2 gf bf ae d0 d4 am A HB2 ap ao ah HM ai al aj bc HG;refine ZO (S:=fun w'=>w'.cell? ⟨gb,0,none⟩=some (.slice L nn z)) kq (by(show SG gb (.slice L nn z) _;repeat (first|with_reducible exact KA.out|with_reducible exact KC.out|with_reducible refine SG.drew ?_|with_reducible refine SG.alloc ?_ _|(with_reducible refine SG.set1 ?_ _)))) (fun hHeld=>?_);refine tk 0 hHeld ?_;refine tk 1 hHeld ?_;refine tk 2 hHeld ?_;refine tk 3 hHeld ?_;refine tk 5 hHeld ?_;refine tk 6 hHeld ?_;refine tk 7 hHeld ?_;refine tk 8 hHeld ?_;refine tk 9 hHeld ?_;refine tk 10 hHeld ?_;refine tk 11 hHeld ?_;refine rz 4 12 (fun K hK=>?_) fun K hK=>?_
  ·go_simp;refine hK.out _ _ (fun hHeld=>?_) (by show SG gb (.slice L nn z) _;exact sq);clear hK K;refine ry 12 fun K hK=>?_
   go_simp;refine hK.out _ _ (fun hHeld=>?_) (by show SG gb (.slice L nn z) _;exact sq);clear hK K;refine ry 13 fun K hK=>?_
   (refine step_append_lies _ (by rfl) _ _ _ (by rfl) W1.heap.size 289 i0 _ 3 24 underlying274 D.out.1 D.out.2.1 D.out.2.2.1 D.out.2.2.2 rfl oq (.slice lo E.length co) E.length (UF E) (by rfl) (Z.out.drew.alloc _) ⟨w3.heap.size,0,none⟩ 1 1 [.pointer (some ⟨b,o,none⟩),.int .i64 0,.int .i64 nn] (by rfl) (by rfl) (World.news_of_block (Zz w3.drew _)) (by simp[Value.oneCell']) oq (by have:=HB.out.1;unfold maxLen;omega) (by have:=HB.out.1;omega) (by have:=HB.out.2.2;simp;omega) (w3.heap.size+1) (by simp) ?_;intro gg cap w4 j g q au;have y:=M.out w4 gg cap j g q;have KC:=hid (show SG gb (.slice L nn z) w4 from y.1);have af:=y.2.1;have ag:=y.2.2.1;have F:=hid y.2.2.2;clear y j g q)
   refine hK.out _ _ (fun hHeld=>?_) (by show SG gb (.slice L nn z) _;exact sq);clear hK K;refine tk 14 hHeld ?_;refine tk 15 hHeld ?_;refine ry 16 fun K hK=>?_
   go_simp;refine hK.out _ _ (fun hHeld=>?_) (by show SG gb (.slice L nn z) _;exact sq);clear hK K;refine Zy kq ?_ _
   (go_wp2;all_goals (refine bodyPost_end (v:=.tuple #[]) ?_ rfl ?_;(focus (simp[results,results180]));exact⟨rfl,.inr (F.out aq)⟩))
  go_simp;refine hK.out _ _ (fun hHeld=>?_) (by show SG gb (.slice L nn z) _;exact sq);clear hK K;refine ry 4 fun K hK=>?_
  go_simp;refine hK.out _ _ (fun hHeld=>?_) (by show SG gb (.slice L nn z) _;exact sq);clear hK K;refine ry 13 fun K hK=>?_
  (refine step_append_lies _ (by rfl) _ _ _ (by rfl) W1.heap.size 289 i0 _ 3 24 underlying274 D.out.1 D.out.2.1 D.out.2.2.1 D.out.2.2.2 rfl oq (.slice lo E.length co) E.length (UF E) (by rfl) (Z.out.drew.alloc _) ⟨w3.heap.size,0,none⟩ 1 1 [.pointer (some ⟨b,o,none⟩),.int .i64 0,.int .i64 nn] (by rfl) (by rfl) (World.news_of_block (Zz w3.drew _)) (by simp[Value.oneCell']) oq (by have:=HB.out.1;unfold maxLen;omega) (by have:=HB.out.1;omega) (by have:=HB.out.2.2;simp;omega) (w3.heap.size+1) (by simp) ?_;intro gg cap w4 j g q au;have y:=M.out w4 gg cap j g q;have KC:=hid (show SG gb (.slice L nn z) w4 from y.1);have af:=y.2.1;have ag:=y.2.2.1;have F:=hid y.2.2.2;clear y j g q)
  refine hK.out _ _ (fun hHeld=>?_) (by show SG gb (.slice L nn z) _;exact sq);clear hK K;refine tk 14 hHeld ?_;refine tk 15 hHeld ?_;refine ry 16 fun K hK=>?_
  go_simp;refine hK.out _ _ (fun hHeld=>?_) (by show SG gb (.slice L nn z) _;exact sq);clear hK K;refine Zy kq ?_ _
  (go_wp2;all_goals (refine bodyPost_end (v:=.tuple #[]) ?_ rfl ?_;(focus (simp[results,results180]));exact⟨rfl,.inr (F.out aq)⟩))
 obtain⟨L,z,an⟩:∃ad z,vn=.slice ad nn z:=Qn aj.out;subst an;have C:GW W1 gb mb nn E (w2.alloc (.cells #[.int .i64 f,.int .i64 t] 286)):=ah.out.same (HB2.out.alloc oq _);have G:(w2.alloc (.cells #[.int .i64 f,.int .i64 t] 286)).heap[gb]?=some (XM (.slice L nn z) vo mb):=(Za _ _ _ oq).trans ((HB2.out.block _ ar).trans HG.out);have KA:=hid (show SP w.heap.size f t (w2.alloc (.cells #[.int .i64 f,.int .i64 t] 286)) from ⟨by rw[←ae];go_simp,by rw[←ae];go_simp⟩);have hpg:¬w.heap.size=gb:=oq;have ak:(w2.alloc (.cells #[.int .i64 f,.int .i64 t] 286)).heap[w.heap.size]?=some (.cells #[.int .i64 f,.int .i64 t] 286 (0,0)):=by rw[←ae];exact Yw w2 _
 obtain⟨⟨q0,q1,q2⟩,qf⟩:=X1 G;generalize w2.alloc (.cells #[.int .i64 f,.int .i64 t] 286)=w3 at *;obtain⟨J,T,ac⟩:=(Ux C G).1;have I:=hid T;obtain⟨i0,ab,V,X,Y⟩:=VF ZbM;have D:=hid (Zh ab (Zh V (Zh X Y)));have aa:=Zb G;have H:=C.low;have HB:=hid (Zh hn (Zh aa H.size));have U:=A.out;clear ab V X Y p0 p1 p2 pf g0 g1 g2 gf ae d0 d4 am HB2 ah HM ai al Z HG aj;have bh:=xg I.out;have V:(0:Int)≤(f:Int):=oq;have X:(f:Int)≤(t:Int):=oq;have Y:(t:Int)≤(z:Int):=oq;have bj:(0:Int)≤(t:Int):=oq;have bk:(f:Int)≤(z:Int):=oq;have M:=hid (fun(w4:World) (v':Value) hown hg hat=>qK (w4:=w4) (v':=v') C G T ac ak U hown hg hat);have O:=hid (Zaw T ac U);clear ak ac T G C U H
 cases L with
 | none =>
  simp only at O;refine ZO (S:=fun w'=>w'.cell? ⟨w.heap.size,0,none⟩=some (.int .i64 f)∧w'.cell? ⟨w.heap.size,1,none⟩=some (.int .i64 t)) kq (by(show SP w.heap.size f t _;repeat (first|with_reducible exact KA.out|with_reducible exact KC.out|with_reducible refine SP.drew ?_|with_reducible refine SP.alloc ?_ _|(with_reducible refine SP.set ?_ hpg _)))) (fun hHeld=>?_);refine tk 0 hHeld ?_;refine tk 1 hHeld ?_;refine tk 2 hHeld ?_;refine tk 3 hHeld ?_;refine tk 5 hHeld ?_;refine tk 6 hHeld ?_;refine tk 7 hHeld ?_;refine tk 9 hHeld ?_;refine tk 10 hHeld ?_;refine tk 11 hHeld ?_;refine tk 12 hHeld ?_;refine rz 4 8 (fun K hK=>?_) fun K hK=>?_
  ·go_simp;refine hK.out _ _ (fun hHeld=>?_) (by show SP w.heap.size f t _;exact sq);clear hK K;refine ry 8 fun K hK=>?_
   go_simp;refine hK.out _ _ (fun hHeld=>?_) (by show SP w.heap.size f t _;exact sq);clear hK K;refine tk 13 hHeld ?_;refine ry 14 fun K hK=>?_
   (refine Qo _ (by rfl) _ _ _ (by rfl) W1.heap.size 88 i0 _ 6 72 underlying86 D.out.1 D.out.2.1 D.out.2.2.1 D.out.2.2.2 rfl oq (.slice none nn z) nn J (by rfl) (I.out.drew) none (t-f) (z-f) ((J.drop (f*6)).take ((t-f)*6)) (by rfl) O.out.1 O.out.2.1 O.out.2.2 (by have:=HB.out.1;have:=A.out;unfold maxLen;omega) (by have:=HB.out.1;have:=A.out;omega) (by have:=HB.out.2.2;simp;omega) ?_;intro v' w4 j g q;obtain⟨lv,cv,rfl⟩:=Qn j;have y:=M.out w4 _ j g q;have KC:=hid (show SP w.heap.size f t w4 from y.1);have af:=y.2.1;have ag:=y.2.2.1;have F:=hid y.2.2.2;clear y j g q)
   refine hK.out _ _ (fun hHeld=>?_) (by show SP w.heap.size f t _;exact sq);clear hK K;refine tk 15 hHeld ?_;refine tk 16 hHeld ?_;refine ry 17 fun K hK=>?_
   go_simp;refine hK.out _ _ (fun hHeld=>?_) (by show SP w.heap.size f t _;exact sq);clear hK K;refine Zy kq ?_ _
   (go_wp2;all_goals (refine Zl (v:=.tuple #[]) ?_ rfl ?_;(focus (simp[results,results180]));exact⟨rfl,.inl ⟨_,by have:=A.out;omega,F.out⟩⟩))
  go_simp;refine hK.out _ _ (fun hHeld=>?_) (by show SP w.heap.size f t _;exact sq);clear hK K;refine tk 13 hHeld ?_;refine ry 4 fun K hK=>?_
  go_simp;refine hK.out _ _ (fun hHeld=>?_) (by show SP w.heap.size f t _;exact sq);clear hK K;refine ry 14 fun K hK=>?_
  (refine Qo _ (by rfl) _ _ _ (by rfl) W1.heap.size 88 i0 _ 6 72 underlying86 D.out.1 D.out.2.1 D.out.2.2.1 D.out.2.2.2 rfl oq (.slice none nn z) nn J (by rfl) (I.out.drew) none (t-f) (z-f) ((J.drop (f*6)).take ((t-f)*6)) (by rfl) O.out.1 O.out.2.1 O.out.2.2 (by have:=HB.out.1;have:=A.out;unfold maxLen;omega) (by have:=HB.out.1;have:=A.out;omega) (by have:=HB.out.2.2;simp;omega) ?_;intro v' w4 j g q;obtain⟨lv,cv,rfl⟩:=Qn j;have y:=M.out w4 _ j g q;have KC:=hid (show SP w.heap.size f t w4 from y.1);have af:=y.2.1;have ag:=y.2.2.1;have F:=hid y.2.2.2;clear y j g q)
  refine hK.out _ _ (fun hHeld=>?_) (by show SP w.heap.size f t _;exact sq);clear hK K;refine tk 15 hHeld ?_;refine tk 16 hHeld ?_;refine ry 17 fun K hK=>?_
  go_simp;refine hK.out _ _ (fun hHeld=>?_) (by show SP w.heap.size f t _;exact sq);clear hK K;refine Zy kq ?_ _
  (go_wp2;all_goals (refine Zl (v:=.tuple #[]) ?_ rfl ?_;(focus (simp[results,results180]));exact⟨rfl,.inl ⟨_,by have:=A.out;omega,F.out⟩⟩))
 | some aln =>
  obtain⟨gn,rfl⟩:∃gn,aln=⟨gn,0,none⟩:=qY I.out;simp only at O;refine ZO (S:=fun w'=>w'.cell? ⟨w.heap.size,0,none⟩=some (.int .i64 f)∧w'.cell? ⟨w.heap.size,1,none⟩=some (.int .i64 t)) kq (by(show SP w.heap.size f t _;repeat (first|with_reducible exact KA.out|with_reducible exact KC.out|with_reducible refine SP.drew ?_|with_reducible refine SP.alloc ?_ _|(with_reducible refine SP.set ?_ hpg _)))) (fun hHeld=>?_);refine tk 0 hHeld ?_;refine tk 1 hHeld ?_;refine tk 2 hHeld ?_;refine tk 3 hHeld ?_;refine tk 5 hHeld ?_;refine tk 6 hHeld ?_;refine tk 7 hHeld ?_;refine tk 9 hHeld ?_;refine tk 10 hHeld ?_;refine tk 11 hHeld ?_;refine tk 12 hHeld ?_;refine rz 4 8 (fun K hK=>?_) fun K hK=>?_
  ·go_simp;refine hK.out _ _ (fun hHeld=>?_) (by show SP w.heap.size f t _;exact sq);clear hK K;refine ry 8 fun K hK=>?_
   go_simp;refine hK.out _ _ (fun hHeld=>?_) (by show SP w.heap.size f t _;exact sq);clear hK K;refine tk 13 hHeld ?_;refine ry 14 fun K hK=>?_
   (refine Qo _ (by rfl) _ _ _ (by rfl) W1.heap.size 88 i0 _ 6 72 underlying86 D.out.1 D.out.2.1 D.out.2.2.1 D.out.2.2.2 rfl oq (.slice (some ⟨gn,0,none⟩) nn z) nn J (by rfl) (I.out.drew) (if z=f then some ⟨gn,0,none⟩ else some ⟨gn,f*6,none⟩) (t-f) (z-f) ((J.drop (f*6)).take ((t-f)*6)) (by rfl) O.out.1 O.out.2.1 O.out.2.2 (by have:=HB.out.1;have:=A.out;unfold maxLen;omega) (by have:=HB.out.1;have:=A.out;omega) (by have:=HB.out.2.2;simp;omega) ?_;intro v' w4 j g q;obtain⟨lv,cv,rfl⟩:=Qn j;have y:=M.out w4 _ j g q;have KC:=hid (show SP w.heap.size f t w4 from y.1);have af:=y.2.1;have ag:=y.2.2.1;have F:=hid y.2.2.2;clear y j g q)
   refine hK.out _ _ (fun hHeld=>?_) (by show SP w.heap.size f t _;exact sq);clear hK K;refine tk 15 hHeld ?_;refine tk 16 hHeld ?_;refine ry 17 fun K hK=>?_
   go_simp;refine hK.out _ _ (fun hHeld=>?_) (by show SP w.heap.size f t _;exact sq);clear hK K;refine Zy kq ?_ _
   (go_wp2;all_goals (refine Zl (v:=.tuple #[]) ?_ rfl ?_;(focus (simp[results,results180]));exact⟨rfl,.inl ⟨_,by have:=A.out;omega,F.out⟩⟩))
  go_simp;refine hK.out _ _ (fun hHeld=>?_) (by show SP w.heap.size f t _;exact sq);clear hK K;refine tk 13 hHeld ?_;refine ry 4 fun K hK=>?_
  go_simp;refine hK.out _ _ (fun hHeld=>?_) (by show SP w.heap.size f t _;exact sq);clear hK K;refine ry 14 fun K hK=>?_
  (refine Qo _ (by rfl) _ _ _ (by rfl) W1.heap.size 88 i0 _ 6 72 underlying86 D.out.1 D.out.2.1 D.out.2.2.1 D.out.2.2.2 rfl oq (.slice (some ⟨gn,0,none⟩) nn z) nn J (by rfl) (I.out.drew) (if z=f then some ⟨gn,0,none⟩ else some ⟨gn,f*6,none⟩) (t-f) (z-f) ((J.drop (f*6)).take ((t-f)*6)) (by rfl) O.out.1 O.out.2.1 O.out.2.2 (by have:=HB.out.1;have:=A.out;unfold maxLen;omega) (by have:=HB.out.1;have:=A.out;omega) (by have:=HB.out.2.2;simp;omega) ?_;intro v' w4 j g q;obtain⟨lv,cv,rfl⟩:=Qn j;have y:=M.out w4 _ j g q;have KC:=hid (show SP w.heap.size f t w4 from y.1);have af:=y.2.1;have ag:=y.2.2.1;have F:=hid y.2.2.2;clear y j g q)
  refine hK.out _ _ (fun hHeld=>?_) (by show SP w.heap.size f t _;exact sq);clear hK K;refine tk 15 hHeld ?_;refine tk 16 hHeld ?_;refine ry 17 fun K hK=>?_
  go_simp;refine hK.out _ _ (fun hHeld=>?_) (by show SP w.heap.size f t _;exact sq);clear hK K;refine Zy kq ?_ _
  (go_wp2;all_goals (refine Zl (v:=.tuple #[]) ?_ rfl ?_;(focus (simp[results,results180]));exact⟨rfl,.inl ⟨_,by have:=A.out;omega,F.out⟩⟩))
theorem qJ{W1 w:World}{gb mb nn:Nat}{f:List SE}(h:GW W1 gb mb nn f w){b o:Nat}{e:PE}(j:JK W1 b o e)(z:nn≤60000000000)(y:f.length≤1000)(g:UG e) :
  Calls prog 180 #[.pointer (some ⟨gb,0,none⟩),.pointer (some ⟨b,o,none⟩)] w fun x w'=>x=.returned (.tuple #[])∧((∃m,(m≤nn+1∨(e.args.len≠0∧m≤2*nn))∧GW W1 gb mb m f w')∨GW W1 gb mb nn (f++[⟨b,o,0,nn,e⟩]) w'):=by
 by_cases q:e.k=11
 ·exact(Zb7 h j q z).mono fun x w' ⟨h1,h2⟩=>⟨h1,.inl ⟨_,.inl (Zc _),h2⟩⟩
 by_cases v:e.args.len=0
 ·exact(Zb6 h j q (Ze9 v)).mono fun x w' ⟨h1,h2⟩=>⟨h1,.inl ⟨nn,.inl (Nat.le_succ _),h2▸h⟩⟩
 refine(Zak h j q v z y g).mono fun x w' ⟨h1,h2⟩=>⟨h1,?_⟩
 rcases h2 with ⟨m,hm,h2⟩|h2
 ·exact .inl ⟨m,.inr ⟨v,hm⟩,h2⟩
 exact .inr h2
structure ZeK (w:World) (gb g co:Nat) (vn:Value) (mb:Nat) (stk0:List SE) (s:SE):Prop where
 gbk:w.heap[gb]?=some (XM vn (.slice (some ⟨g,0,none⟩) (stk0.length+1) co) mb)
 c0:w.cell? ⟨g,stk0.length*3,none⟩=some (.pointer (some ⟨s.b,s.o,none⟩))
 c1:w.cell? ⟨g,stk0.length*3+1,none⟩=some (.int .i64 s.next)
 c2:w.cell? ⟨g,stk0.length*3+2,none⟩=some (.int .i64 s.fr)
 fz:w.frozen? ⟨g,stk0.length*3+1,none⟩=false
 cap:stk0.length+1≤co
theorem last_at{W1 w:World}{gb mb nn:Nat}{stk0:List SE}{s:SE}(h:GW W1 gb mb nn (stk0++[s]) w):∃vn g co xs,ZeK w gb g co vn mb stk0 s∧w.ownsRow W1.heap.size 88 6 vn nn xs∧NmR xs nn∧w.ownsRow W1.heap.size 289 3 (.slice (some ⟨g,0,none⟩) (stk0.length+1) co) (stk0.length+1) (UF stk0++s.v):=by
 obtain⟨vn,C,xs,y,x,q,f⟩:=h.sta;have z:(stk0++[s]).length=stk0.length+1:=by simp
 rw[z,Q7] at f;obtain⟨g,co,rfl,_,_⟩:=f.form oq;have m:∀j,j<3→w.cell? ⟨g,stk0.length*3+j,none⟩=(SE.v s)[j]?:=by
  intro j A;rw[f.cellAt _ oq,List.getElem?_append_right (by rw[JI];omega),JI,Nat.add_sub_cancel_left];show(s.v++[])[j]?=_;rw[List.append_nil]
 exact⟨vn,g,co,xs,⟨y,m 0 oq,m 1 oq,m 2 oq,f.frozenAt _,xg f⟩,x,q,by simpa [UF] using f⟩
theorem GW.next{W1 w:World}{gb mb nn g H:Nat}{stk0:List SE}{s:SE}{I:Value}(h:GW W1 gb mb nn (stk0++[s]) w)(z:w.heap[gb]?=some (XM I (.slice (some ⟨g,0,none⟩) (stk0.length+1) H) mb))(E:s.next+1≤s.e.args.len) :
  GW W1 gb mb nn (stk0++[⟨s.b,s.o,s.next+1,s.fr,s.e⟩]) (w.setCell ⟨g,stk0.length*3+1,none⟩ (.int .i64 ((s.next:Int)+1))):=by
 obtain⟨⟨R,y,G⟩,f⟩:=Ux h z;have O:(stk0++[s]).length=stk0.length+1:=by simp
 rw[O,Q7] at f;have C:g≠gb:=fun e=>XQ f z (by decide) (by rw[←e];rfl)
 obtain⟨arr,clock,F,_⟩:=id h.map;have A:g≠mb:=fun e=>Uw f (b:=mb) (fun cur e2=>by rw[F] at e2;cases e2) (by rw[←e];rfl)
 have M:=(f.lt g rfl);have q:=h.low.size;have m:∀k,k≠g→(w.setCell ⟨g,stk0.length*3+1,none⟩ (.int .i64 ((s.next:Int)+1))).heap[k]?=w.heap[k]?:=fun k m=>heap_setCell_other _ _ _ _ m
 have D:(stk0++[(⟨s.b,s.o,s.next+1,s.fr,s.e⟩:SE)]).length=stk0.length+1:=by simp
 refine⟨⟨h.low.os,h.low.tape,h.low.output,by simpa [World.setCell] using q,fun k hk1=>(m k oq).trans (h.low.block k hk1)⟩,h.hgb,h.hmb,⟨I,.slice (some ⟨g,0,none⟩) (stk0.length+1) H,R,(m gb (fun e=>C e.symm)).trans z,?_,G,?_⟩,h.map.keep (m mb (fun e=>A e.symm)) (fun _ h=>h),fun x hx=>?_⟩
 ·refine Xk y fun k hk1=>m k fun e=>?_
  rcases f.2 with ⟨j,_⟩|⟨g2,cap2,cur,j,_,hgo2,_⟩
  ·cases j
  injection j with j _ _;injection j with j;injection j with j
  rw[e] at hk1;exact XQ y (b:=g) (by rw[j];exact hgo2) (by decide) hk1.symm
 ·rw[D,Q7];have:=(f.stored (stk0.length*3+1) (.int .i64 ((s.next:Int)+1))).1;rw[List.set_append_right _ _ (by rw[JI];omega),JI,Nat.add_sub_cancel_left] at this;simpa [UF,SE.v] using this
 rcases List.mem_append.1 hx with hx|hx
 ·exact h.stk x (List.mem_append_left _ hx)
 rw[List.mem_singleton.1 hx];obtain⟨j,T,J,L⟩:=h.stk s (by simp);exact⟨j,E,J,L⟩
theorem ZaJ{W1 w:World}{gb mb nn:Nat}{stk0:List SE}{s:SE}(h:GW W1 gb mb nn (stk0++[s]) w)(hn:nn≤60000000000)(ap:stk0.length≤900)(M:s.next<s.e.args.len) :
  Calls prog 181 #[.pointer (some ⟨gb,0,none⟩)] w fun x w'=>x=.returned (.tuple #[])∧∃e,s.e.args.at s.next=some e∧((∃m,(m≤nn+1∨(e.args.len≠0∧m≤2*nn))∧GW W1 gb mb m (stk0++[{ s with next:=s.next+1 }]) w')∨∃b o,GW W1 gb mb nn (stk0++[{ s with next:=s.next+1 }]++[⟨b,o,0,nn,e⟩]) w'):=by
 obtain⟨vn,g,co,xs,q,an,am,ao⟩:=last_at h;obtain⟨hex,ax,au,X⟩:=h.stk s (by simp);obtain⟨e,z,aq⟩:=s.e.args.at_some s.next M;have ah:=hid q;obtain⟨⟨g0,g1,g2⟩,gf⟩:=X1 q.gbk;have A:=q.c0;have C:=q.c1;have D:=q.fz;obtain⟨ad,cap,c4,y⟩:=hex.c4;have ar:=hex.len;obtain⟨O,o',rfl,ak,V,Z⟩:∃O o',ad=some ⟨O,o',none⟩∧O<W1.heap.size∧AC W1 s.e.args O o'∧NF W1 s.e.args O o':=by
  rcases y with h0|h0
  ·rw[h0] at M;exact absurd M (Yl _)
  exact h0
 have ae:=hid (JK.child s.e.args ak V Z s.next e z);have ab:=hid (Ar2.at s.e.args s.next e X.2 z);have d4:=(h.low.cell (p:=⟨s.b,s.o+4,none⟩) hex.lt).trans c4;have ag:=hid h;have ac:=hid z;have T:=hid (Zh hex.lt c4);obtain⟨m,Y⟩:=ez stk0.length;rw[Y] at A C D g1 ap;obtain⟨sb,so,f,aa,se⟩:=s;simp only at *;have ay:IntKind.i64.wrap (m:Int)=(m:Int):=ZK _ oq;have bc:IntKind.i64.wrap (f:Int)=(f:Int):=ZK _ oq;have az:IntKind.i64.wrap ((m:Int)+1-1)=(m:Int):=by rw[show(m:Int)+1-1=m by omega];exact ZK _ oq
 have av:(0:Int)≤(m:Int):=oq;have aw:(m:Int)<(m:Int)+1:=oq;have be:(f:Int)<(se.args.len:Int):=oq;have ba:IntKind.i64.wrap ((f:Int)+1)=(f:Int)+1:=ZK _ oq;have bb:IntKind.i64.wrap ((f:Int)+1-1)=(f:Int):=by rw[show(f:Int)+1-1=f by omega];exact ZK _ oq
 have bd:(0:Int)≤(f:Int):=oq;clear q an am ao hex y V Z z aq h c4 X;go_enter func181,ntmps181;go_wp2;go_still_tail 11,kq
 change wpList _ _ _ _ _ (w).drew;have H:(w).drew.heap=(w).heap:=rfl;have E:Below (w).heap.size (w) (w).drew:=(Zg _ _).drew;have L:=hid (Zh H E);clear H E;change (w).drew.cell? _=_ at g1 A C d4;change (w).drew.frozen? _=_ at D;generalize (w).drew=wa at *
 go_wp2;go_still_tail 12,kq
 change wpList _ _ _ _ _ (wa).drew;have I:(wa).drew.heap=(wa).heap:=rfl;have F:Below (wa).heap.size (wa) (wa).drew:=(Zg _ _).drew;have U:=hid (Zh I F);clear I F;change (wa).drew.cell? _=_ at g1 A C d4;change (wa).drew.frozen? _=_ at D;generalize (wa).drew=wb at *
 go_wp2;have j:GW W1 gb mb nn (stk0++[⟨sb,so,f+1,aa,se⟩]) (wb.setCell ⟨g,m*3+1,none⟩ (.int .i64 ((f:Int)+1))):=by
  have hb:Below w.heap.size w wb:=L.out.2.trans (U.out.2.mono (by rw[L.out.1];exact Zc _));have al:wb.heap=w.heap:=U.out.1.trans L.out.1;have:=GW.next (ag.out.same hb) (stk0:=stk0) (s:=⟨sb,so,f,aa,se⟩) (by rw[al];exact ah.out.gbk) (by show f+1≤se.args.len;omega);rw[Y] at this;exact this
 have e0:(wb.setCell ⟨g,m*3+1,none⟩ (.int .i64 ((f:Int)+1))).cell? ⟨g,m*3,none⟩=some (.pointer (some ⟨sb,so,none⟩)):=by go_simp
 have e1:(wb.setCell ⟨g,m*3+1,none⟩ (.int .i64 ((f:Int)+1))).cell? ⟨g,m*3+1,none⟩=some (.int .i64 ((f:Int)+1)):=by go_simp
 have e4:(wb.setCell ⟨g,m*3+1,none⟩ (.int .i64 ((f:Int)+1))).cell? ⟨sb,so+4,none⟩=some (.slice (some ⟨O,o',none⟩) se.args.len cap):=(j.low.cell (p:=⟨sb,so+4,none⟩) T.out.1).trans T.out.2;have ef:=gf;clear A C d4 D g1;generalize wb.setCell ⟨g,m*3+1,none⟩ (.int .i64 ((f:Int)+1))=w5 at *;have af:=hid j;have ef:w5.frozen? ⟨gb,0,none⟩=false:=by
  obtain⟨_,_,_,hg,_⟩:=j.sta;exact(X1 hg).2 0
 clear j;go_still_tail 14,kq
 change wpList _ _ _ _ _ (w5).drew;have J:(w5).drew.heap=(w5).heap:=rfl;have G:Below (w5).heap.size (w5) (w5).drew:=(Zg _ _).drew;have aj:=hid (Zh J G);clear J G;change (w5).drew.cell? _=_ at e0 e1 e4;change (w5).drew.frozen? _=_ at ef;generalize (w5).drew=wc at *
 have ai:=hid (qJ (af.out.same aj.out.2) ae.out hn (by simp;omega) ab.out);go_wp2_with (go_at_call 180;refine ai.out.mono ?_;rintro x w6 ⟨rfl,R⟩;have H6:=hid R;clear R);refine Zl (v:=.tuple #[]) ?_ rfl ?_
 ·simp[results,results181]
 refine⟨rfl,e,ac.out,?_⟩;rcases H6.out with R|R
 ·exact .inl R
 exact .inr ⟨_,_,R⟩
theorem GW.pop{W1 w:World}{gb mb nn g q:Nat}{stk0:List SE}{s:SE}{E:Value}(h:GW W1 gb mb nn (stk0++[s]) w)(j:w.heap[gb]?=some (XM E (.slice (some ⟨g,0,none⟩) (stk0.length+1) q) mb)) :
  GW W1 gb mb nn stk0 (w.setCell ⟨gb,1,none⟩ (.slice (some ⟨g,0,none⟩) stk0.length q)):=by
 obtain⟨⟨I,y,D⟩,z⟩:=Ux h j;have H:(stk0++[s]).length=stk0.length+1:=by simp
 rw[H,Q7] at z;obtain⟨arr,clock,C,_⟩:=id h.map;have A:mb≠gb:=fun e=>by rw[←e,C] at j;cases j
 have G:=Zb j;have v:=h.low.size;have F:=h.hgb;have m:∀k,k≠gb→(w.setCell ⟨gb,1,none⟩ (.slice (some ⟨g,0,none⟩) stk0.length q)).heap[k]?=w.heap[k]?:=fun k m=>heap_setCell_other _ _ _ _ m
 refine⟨⟨h.low.os,h.low.tape,h.low.output,by simpa [World.setCell] using v,fun k hk1=>(m k oq).trans (h.low.block k hk1)⟩,h.hgb,h.hmb,⟨E,_,I,kS j _,?_,D,?_⟩,h.map.keep (m mb A) (fun _ h=>h),fun x hx=>h.stk x (List.mem_append_left _ hx)⟩
 ·exact Xk y fun k hk1=>m k fun e=>XQ y j (by decide) (by rw[←e];exact hk1.symm)
 have f:w.ownsRow W1.heap.size 289 3 (.slice (some ⟨g,0,none⟩) stk0.length q) stk0.length (UF stk0):=by
  refine⟨JI _,?_⟩;rcases z.2 with ⟨f,_⟩|⟨g2,cap2,cur,f,h2,h3,h4,h5,h6,h7⟩
  ·cases f
  injection f with f h1b h1c;injection f with f;injection f with f
  subst f;subst h1c;refine .inr ⟨g,q,cur,rfl,h2,h3,oq,h5,h6,?_⟩;have:=Z3 (List.take (stk0.length*3)) h7;rw[List.take_take,Nat.min_eq_left oq] at this;rw[this,List.take_append_of_le_length (by rw[JI];exact Zc _),List.take_of_length_le (by rw[JI];exact Zc _)]
 exact Xk f fun k hk1=>m k fun e=>XQ f j (by decide) (by rw[←e];exact hk1.symm)
theorem Ze5{W1 w w3:World}{gb mb nn:Nat}{y:List SE}{z A:Value}(h:GW W1 gb mb nn y w)(f:w.heap[gb]?=some (XM z A mb))(x:Upon mb w w3)(H:Vv w3 mb (GR W1) (PcV nn)):GW W1 gb mb nn y w3∧w3.heap[gb]?=some (XM z A mb):=by
 obtain⟨arr,clock,q,_⟩:=id h.map;have j:∀k,k<w.heap.size→k≠mb→w3.heap[k]?=w.heap[k]?:=fun k j hne=>x.block k j hne
 have m:=h.low.size;have g:w3.heap[gb]?=some (XM z A mb):=(j gb (Zb f) (fun e=>by rw[e,q] at f;cases f)).trans f;obtain⟨⟨C,E,D⟩,F⟩:=Ux h f;have G:∀{e:TypeId}{size n:Nat}{v:Value}{C:List Value},w.ownsRow W1.heap.size e size v n C→w3.ownsRow W1.heap.size e size v n C:=fun h=>Xk h fun k hk2=>j k (h.lt k hk2).2 (fun e=>Uw h (b:=mb) (fun cur e2=>by rw[q] at e2;cases e2) (by rw[←e];exact hk2))
 exact⟨⟨⟨x.os.trans h.low.os,x.tape.trans h.low.tape,x.output.trans h.low.output,Zm m x.size,fun k hk1=>(j k oq (by have:=h.hmb;omega)).trans (h.low.block k hk1)⟩,h.hgb,h.hmb,⟨z,A,C,g,G E,D,G F⟩,H,h.stk⟩,g⟩
theorem uK{W1 w:World}{gb mb nn:Nat}{stk0:List SE}{s:SE}(h:GW W1 gb mb nn (stk0++[s]) w)(hn:nn≤60000000000)(ax:stk0.length≤900)(ar:s.next=s.e.args.len) :
  Calls prog 181 #[.pointer (some ⟨gb,0,none⟩)] w fun x w'=>x=.returned (.tuple #[])∧GW W1 gb mb nn stk0 w':=by
 obtain⟨vn,g,co,xs,f,al,av,aw⟩:=last_at h;obtain⟨hex,be,au,aq⟩:=h.stk s (by simp);have aa:=hid f;obtain⟨ln,cn,ay⟩:∃ad cn,vn=.slice ad nn cn:=Qn al;subst ay;obtain⟨⟨X,g1,g2⟩,gf⟩:=X1 f.gbk;have j:=f.c0;have q:=f.c1;have y:=f.c2;have ai:=f.cap;obtain⟨ad,cap,c4,R⟩:=hex.c4;have ba:=hex.len;have d4:=(h.low.cell (p:=⟨s.b,s.o+4,none⟩) hex.lt).trans c4;have Y:=hid h;have ao:=hid hex;obtain⟨m,V⟩:=ez stk0.length;rw[V] at j q y g1 ax ai;obtain⟨sb,so,bh,an,se⟩:=s;simp only at *;subst ar;have A:=gf 1;have bg:IntKind.i64.wrap (m:Int)=(m:Int):=ZK _ oq;have bb:(0:Int)≤(m:Int):=oq;have bc:(m:Int)<(m:Int)+1:=oq;have bd:(m:Int)≤(co:Int):=oq;clear f al av aw hex R h c4 aq gf;go_enter func181,ntmps181;go_wp2;go_still_tail 11,kq
 change wpList _ _ _ _ _ (w).drew;have I:(w).drew.heap=(w).heap:=rfl;have D:Below (w).heap.size (w) (w).drew:=(Zg _ _).drew;have ae:=hid (Zh I D);clear I D;change (w).drew.cell? _=_ at X g1 g2 j q y d4;change (w).drew.frozen? _=_ at A;generalize (w).drew=wa at *
 go_wp2;go_still_tail 12,kq
 change wpList _ _ _ _ _ (wa).drew;have J:(wa).drew.heap=(wa).heap:=rfl;have E:Below (wa).heap.size (wa) (wa).drew:=(Zg _ _).drew;have af:=hid (Zh J E);clear J E;change (wa).drew.cell? _=_ at X g1 g2 j q y d4;change (wa).drew.frozen? _=_ at A;generalize (wa).drew=wb at *
 go_wp2;go_still_tail 18,kq
 change wpList _ _ _ _ _ (wb).drew;have L:(wb).drew.heap=(wb).heap:=rfl;have F:Below (wb).heap.size (wb) (wb).drew:=(Zg _ _).drew;have ag:=hid (Zh L F);clear L F;change (wb).drew.cell? _=_ at X g1 g2 j q y d4;change (wb).drew.frozen? _=_ at A;generalize (wb).drew=wc at *
 have T:Below w.heap.size w wc∧wc.heap=w.heap:=by
  have h1:=ae.out;have h2:=af.out;have h3:=ag.out;exact⟨h1.2.trans ((h2.2.trans (h3.2.mono (by rw[h2.1];exact Zc _))).mono (by rw[h1.1];exact Zc _)),h3.1.trans (h2.1.trans h1.1)⟩
 have z:=hid (Y.out.same T.1);have O:=hid T;clear T ae af ag j q y d4 X g1 g2 A;have X:wc.cell? ⟨gb,0,none⟩=some (.slice ln nn cn):=by have:=(X1 aa.out.gbk).1.1;simpa [World.cell?,O.out.2] using this
 go_wp2_with (at_mapUpdate;refine Gn KR _ rfl _ _ _ rfl mb (GR W1) (PcV nn) _ (.agg #[.int .i64 (an:Int),.int .i64 (nn:Int)]) rfl rfl rfl z.out.map (fun v hv=>GR.ptr z.out.low v hv) ⟨sb,so,_,rfl,ao.out⟩ ⟨an,nn,rfl,au,Zc _⟩ ?_;intro C am bf ak;have ac:=hid am;have ab:=hid ak;clear am ak);have aj:wc.heap[gb]?=some (XM (.slice ln nn cn) (.slice (some ⟨g,0,none⟩) (stk0.length+1) co) mb):=by rw[O.out.2];exact aa.out.gbk
 obtain⟨H,U⟩:=Ze5 z.out aj ac.out ab.out;have ap:=hid U;have Z:=hid H;obtain⟨⟨q0,q1,q2⟩,qf⟩:=X1 U;have az:=qf 1;rw[V] at q1;clear aj H U X qf z O ac ab Y;go_still_tail 12,kq
 change wpList _ _ _ _ _ (C).drew;have M:(C).drew.heap=(C).heap:=rfl;have G:Below (C).heap.size (C) (C).drew:=(Zg _ _).drew;have ah:=hid (Zh M G);clear M G;change (C).drew.cell? _=_ at q0 q1 q2;change (C).drew.frozen? _=_ at az;generalize (C).drew=wd at *
 go_wp2;refine bodyPost_end (v:=.tuple #[]) ?_ rfl ?_
 ·simp[results,results181]
 have hgd:wd.heap[gb]?=some (XM (.slice ln nn cn) (.slice (some ⟨g,0,none⟩) (stk0.length+1) co) mb):=by rw[ah.out.1];exact ap.out
 have:=GW.pop (Z.out.same ah.out.2) hgd;rw[V] at this;exact⟨rfl,this⟩
structure GS (W1:World) (gb mb N:Nat) (stk:List SE) (w:World):Prop where
 ex:∃nn p,GW W1 gb mb nn stk w∧nn≤T3 p∧p+Jb stk≤N∧stk.length≤p
theorem Za1(p:Nat):T3 (p+3)=2*T3 p:=rfl
theorem GS.one{W1 w:World}{gb mb N nn p m:Nat}{f:List SE}{e:PE}(h:GW W1 gb mb m f w)(x:nn≤T3 p)(j:m≤nn+1∨(e.args.len≠0∧m≤2*nn))(g:UG e)(y:p+e.sz+Jb f≤N)(z:f.length≤p):GS W1 gb mb N f w:=by
 refine⟨m,p+e.sz,h,?_,oq,oq⟩;rcases j with j|⟨h0,j⟩
 ·have q:=yy p;have v:T3 (p+1)≤T3 (p+e.sz):=Gu (by unfold PE.sz;omega);omega
 have q:=Za1 p;have v:T3 (p+3)≤T3 (p+e.sz):=Gu (by have:=g.three h0;omega);omega
def ZfT(w:World)(x:Ending)(w':World):Prop:=(∃ln nn cn xs,x=.returned (.slice ln nn cn)∧w'.ownsRow w.heap.size 88 6 (.slice ln nn cn) nn xs∧NmR xs nn∧nn≤60000000000)∧Below w.heap.size w w'
def zZ(stk:List SE):Nat:=2*Jb stk+stk.length
theorem least{P:Nat→Prop}(h:∃n,P n):∃n,P n∧∀m,P m→n≤m:=by
 obtain⟨n,q⟩:=h
 induction n using Nat.strongRecOn with
 | _ n ih =>
  by_cases f:∃m,m<n∧P m
  ·obtain⟨m,g,j⟩:=f;exact ih m g j
  exact⟨n,q,fun m hm=>Nat.le_of_not_lt fun hlt=>f ⟨m,hlt,hm⟩⟩
def Zdb(W1:World)(gb mb N:Nat)(w:World)(n:Nat):Prop:=∃stk,GS W1 gb mb N stk w∧zZ stk=n
noncomputable def muG(W1:World)(gb mb N:Nat)(w:World):Nat:=@Classical.epsilon Nat ⟨0⟩ (fun n=>Zdb W1 gb mb N w n∧∀m,Zdb W1 gb mb N w m→n≤m)
theorem EE{W1:World}{gb mb N:Nat}{w:World}(h:∃stk,GS W1 gb mb N stk w):Zdb W1 gb mb N w (muG W1 gb mb N w)∧∀m,Zdb W1 gb mb N w m→muG W1 gb mb N w≤m :=
 Classical.epsilon_spec (least (by obtain⟨stk,h⟩:=h;exact⟨_,stk,h,rfl⟩))
theorem GS.child{W1 w:World}{gb mb N nn p:Nat}{stk0:List SE}{s:SE}{e:PE}(y:nn≤T3 p)(G:p+Jb (stk0++[s])≤N)(I:(stk0++[s]).length≤p)(j:UG e)(q:s.e.args.at s.next=some e)(v:s.next<s.e.args.len)
  (g:(∃m,(m≤nn+1∨(e.args.len≠0∧m≤2*nn))∧GW W1 gb mb m (stk0++[{ s with next:=s.next+1 }]) w)∨∃b o,GW W1 gb mb nn (stk0++[{ s with next:=s.next+1 }]++[⟨b,o,0,nn,e⟩]) w) :
  ∃stk,GS W1 gb mb N stk w∧zZ stk<zZ (stk0++[s]):=by
 obtain⟨f,z,E⟩:=s.e.args.at_some s.next v;obtain rfl:f=e:=Option.some.inj (z.symm.trans q);have H:Jb (stk0++[s])=Jb stk0+s.e.args.szFrom s.next:=by rw[JP];simp[Jb]
 have x:Jb (stk0++[{ s with next:=s.next+1 }])=Jb stk0+s.e.args.szFrom (s.next+1):=by rw[JP];simp[Jb]
 have F:(stk0++[s]).length=stk0.length+1:=by simp
 have A:(stk0++[{ s with next:=s.next+1 }]).length=stk0.length+1:=by simp
 have J:f.sz=f.args.sz+1:=rfl;rcases g with ⟨m,hm,g⟩|⟨b,o,g⟩
 ·refine⟨_,GS.one g y hm j oq oq,?_⟩;unfold zZ;omega
 have D:Jb (stk0++[{ s with next:=s.next+1 }]++[⟨b,o,0,nn,f⟩])=Jb stk0+s.e.args.szFrom (s.next+1)+f.args.sz:=by rw[JP,x];simp[Jb,PL.szFrom0]
 have C:(stk0++[{ s with next:=s.next+1 }]++[(⟨b,o,0,nn,f⟩:SE)]).length=stk0.length+2:=by simp
 refine⟨_,⟨nn,p+1,g,Zm y (Gu (Nat.le_succ _)),oq,oq⟩,?_⟩;unfold zZ;omega
theorem zj{w:World}{e:PE}{T:Option Addr}{cap:Nat}(h:AE w e T cap)(ac:∀b o,T=some ⟨b,o,none⟩→NF w e.args b o)(g:UG e)(R:e.sz≤100) :
  Calls prog 174 #[ev e T cap] w (ZfT w):=by
 obtain⟨W1,f⟩:=ey (w.alloc (.cells #[.int .i64 e.k,.string e.nm,.int .i64 e.n,.int .i64 e.d,.slice T e.args.len cap,.int .i64 e.a] 88));have hb1:Below w.heap.size w W1:=by rw[f];exact(Zg _ _).alloc (Zc _) _
 have ag:W1.heap.size=w.heap.size+1:=by rw[f];simp
 have hex:JK W1 w.heap.size 0 e:=by
  have hn:=Yw w (.cells #[.int .i64 e.k,.string e.nm,.int .i64 e.n,.int .i64 e.d,.slice T e.args.len cap,.int .i64 e.a] 88);rw[←f] at hn;obtain⟨⟨c0,c1,c2,c3,c4,c5⟩,cf⟩:=Xm hn;refine⟨oq,cf 0,c0,c1,c2,c3,c5,⟨T,cap,c4,?_⟩,Zm h.len.1 h.len.2⟩;rcases h.args with h0|⟨b,o,rfl,A,hac⟩
  ·exact .inl h0
  exact .inr ⟨b,o,rfl,oq,hac.below hb1 _ _ _ A,(ac b o rfl).below hb1 _ _ _ A hac⟩
 have q:GW W1 (w.heap.size+1+1) (w.heap.size+1) 0 [] ((W1.alloc (.map #[] 0)).alloc (Obj.cells #[.slice none 0 0,.slice none 0 0,.map (some (w.heap.size+1))] 276)):=by
  have hm:=Vv.new W1 (GR W1) (PcV 0);have ah:(W1.alloc (.map #[] 0)).heap.size=w.heap.size+1+1:=by simp[ag]
  refine⟨((Zg _ _).alloc (Zc _) _).alloc (by simp) _,oq,oq,⟨.slice none 0 0,.slice none 0 0,[],?_,Yf _ _ _ _,NmR.nil,Yf _ _ _ _⟩,?_,fun s hs=>(by cases hs)⟩
  ·have:=Yw (W1.alloc (.map #[] 0)) (Obj.cells #[.slice none 0 0,.slice none 0 0,.map (some (w.heap.size+1))] 276);rw[ah] at this;exact this
  rw[ag] at hm;exact hm.keep (Za _ _ _ (by rw[ah];omega)) (fun _ h=>h)
 have H:=hid (qJ q hex oq (by simp) g);have HB1:=hid hb1;have HS:=hid R;rw[f] at H;obtain⟨k,nm,n,d,args,a⟩:=e;unfold ev;simp only at f H ⊢;have Y:=hid f;have am:=fun w=>run_makeMap (P:=prog) 273 w
 clear h ac hex q hb1 f R;have V:=hid g;clear g;go_enter func174,ntmps174;go_wp2_with (go_at_call 180;refine H.out.mono ?_;rintro x w4 ⟨rfl,I⟩;have H4:=hid I;clear I);clear H;have j:∃E,GS W1 (w.heap.size+1+1) (w.heap.size+1) 100 E w4:=by
  have I:=H4.out;rw[←Y.out] at I;have hz:(⟨k,nm,n,d,args,a⟩:PE).sz=args.sz+1:=rfl;have R:=HS.out;rcases I with ⟨m,hm,I⟩|I
  ·exact⟨[],GS.one (nn:=0) (p:=0) I (Zk _) hm V.out (by simp[Jb];omega) (by simp)⟩
  exact⟨_,⟨0,1,I,Zk _,by simp[Jb,PL.szFrom0];omega,by simp⟩⟩
 have aj:=hid j;clear j H4 Y V HS am;go_loopw [] (fun wr=>Hid (∃E,GS W1 (w.heap.size+1+1) (w.heap.size+1) 100 E wr)) (fun wr=>muG W1 (w.heap.size+1+1) (w.heap.size+1) 100 wr)
 case atStart=>exact aj.out
 have j:=hrel.out;clear hrel;obtain⟨⟨E,j,ab⟩,aa⟩:=EE j;obtain⟨nn,p,q,C,hp,ai⟩:=j.ex;have D:nn≤60000000000:=Zm C (ZeQ oq);obtain⟨vn,vo,xs,hg,O,ae,af⟩:=q.sta;obtain⟨ln,cn,rfl⟩:=Qn O;obtain⟨lo,co,rfl⟩:=Qn af;obtain⟨⟨g0,g1,g2⟩,gf⟩:=X1 hg;have al:=hid O;have ak:=hid ae;have G:=hid q;have X:=hid ab;clear O ae q hg ab aa j af;rcases List.eq_nil_or_concat E with rfl|⟨stk0,s,hst⟩
 ·simp only[Zw] at g1;go_wp2;go_ret;refine⟨⟨ln,nn,cn,xs,rfl,al.out.mono oq,ak.out,D⟩,HB1.out.trans (G.out.low.mono oq)⟩
 rw[List.concat_eq_append] at hst;subst hst;have z:(stk0++[s]).length=stk0.length+1:=by simp
 rw[z] at g1 ai;have an:(0:Int)<(stk0.length:Int)+1:=oq;obtain⟨hex,aq,ao,g⟩:=G.out.stk s (by simp);have J:stk0.length≤900:=oq;by_cases A:s.next<s.e.args.len
 ·have L:=hid (ZaJ G.out D J A);have v:=hid (fun(w':World) (e:PE) (y:s.e.args.at s.next=some e) (hw)=>GS.child (W1:=W1) (gb:=w.heap.size+1+1) (mb:=w.heap.size+1) (N:=100) (w:=w') C hp (by rw[z];exact ai) (Ar2.at _ _ _ g.2 y) y A hw);clear hex g C hp;go_wp2_with (go_at_call 181;refine L.out.mono ?_;rintro x w5 ⟨rfl,e,y,Z⟩;have U:=hid (v.out w5 e y Z);clear Z y);obtain⟨F,M,ap⟩:=U.out;refine⟨⟨F,M⟩,?_⟩;have h6:=(EE ⟨F,M⟩).2 _ ⟨F,M,rfl⟩;have h7:=X.out;omega
 have L:=hid (uK G.out D J oq);have hr:Jb (stk0++[s])=Jb stk0+s.e.args.szFrom s.next:=by rw[JP];simp[Jb]
 have v:=hid (fun(w':World) (hw:GW W1 (w.heap.size+1+1) (w.heap.size+1) nn stk0 w')=>(⟨nn,p,hw,C,oq,oq⟩:∃nn p,GW W1 (w.heap.size+1+1) (w.heap.size+1) nn stk0 w'∧nn≤T3 p∧p+Jb stk0≤100∧stk0.length≤p));have HR:=hid hr;clear hex g C hp hr;go_wp2_with (go_at_call 181;refine L.out.mono ?_;rintro x w5 ⟨rfl,Z⟩;have U:=hid (v.out w5 Z);clear Z);refine⟨⟨stk0,⟨U.out⟩⟩,?_⟩;have h6:=(EE (W1:=W1) (gb:=w.heap.size+1+1) (mb:=w.heap.size+1) (N:=100) (w:=w5) ⟨stk0,⟨U.out⟩⟩).2 _ ⟨stk0,⟨U.out⟩,rfl⟩;have h7:=X.out;have h8:=HR.out;unfold zZ at h6 h7;simp only[z] at h7;omega
end Go.Proofs.YtgigilkpndhddaaGreatDoor.syn
namespace Go.Proofs.YtgigilkpndhddaaGreatDoor.lite
open Tryz
open Go.RowKit
theorem EX{P:Program}(w:World)(base:Nat)(t F e:TypeId)(i:TypeInfo)(z:Value)(size bytes:Nat)(ht:P.underlying t=some (.slice e))(hi:P.info? e=some i)(hz:i.zero=some z)
  (D:i.size=size)(I:i.bytes=bytes)(R:z.cells.size=size)(M:0<size)
  (v:Value)(n:Nat)(xs:List Value)(q:w.ownsRow base e size v n xs)
  (G:Option Addr)(m c:Nat)(news:List Value)(J:news.length=m*size)(f:∀j u,news[j]?=some u→∃x:Addr,G=some x∧w.cell? (x.add j)=some u)(T:∀u∈news,u.oneCell'=true)
  (H:n+m≤maxLen)(A:(n+m)*bytes≤140737488355328)(C:base≤w.heap.size) :
  ∃v' w',(Builtin.append_ #[t,t] F #[v,.slice G m c]).run P w=.ok v' w'∧w'.ownsRow base e size v' (n+m) (xs++news)∧w.grownBy w' v.ownBlock∧(v'.ownBlock=v.ownBlock∨v'.ownBlock=some w.heap.size):=by
 cases G with
 | some a =>
  obtain⟨v',w',hr,U,V,_,X⟩:=run_append_own_at (P:=P) w base t F e i z size bytes ht hi hz D I R M v n xs q a m c news J (fun j u h=>by obtain⟨x,O,Y⟩:=f j u h;cases O;exact Y) T H A C;exact⟨v',w',hr,U,V,X⟩
 | none =>
  have Z:m=0:=by
   cases news with
   | nil =>
    have h:m*size=0:=J.symm;rcases Nat.mul_eq_zero.1 h with h|h
    ·exact h
    omega
   | cons u us=>obtain⟨x,O,_⟩:=f 0 u rfl;cases O
  subst Z;obtain rfl:news=[]:=by simpa using J
  have key:∀(b:Option Addr)(k E:Nat),k≤E→(Builtin.append_ #[t,t] F #[.slice b k E,.slice none 0 c]).run P w=.ok (.slice b k E) w:=by
   intro b k E L;refine run_append_nothing w t t F e i ht hi b k E L _ ⟨.inl ⟨_,ht⟩,?_,?_,?_,by simp,by simp⟩
   ·intro w';simp[Builtin.lenOf]
   ·simp[Builtin.firstCells]
   simp[Builtin.firstCells]
  have y:=q;rcases q.2 with ⟨rfl,rfl⟩|⟨g,cap,cur,rfl,hb,hg,hnc,hcm,hcs,htk⟩
  ·refine⟨_,w,key _ _ _ (Yq _),by simpa using y,World.grownBy.refl _ _,.inl rfl⟩
  refine⟨_,w,key _ _ _ hnc,by simpa using y,World.grownBy.refl _ _,.inl rfl⟩
theorem X4{P:Program}(w:World){ops:Array Oper}{rest:List Oper}{o:Oper}{a:Act}{Q:Exit→Act→World→Prop}(hgd:o.guard=none)(s x:Operand)(t:TypeId)
  (O:o.op=.call { callee:=.builtin .append,args:=#[s,x],argTypes:=#[t,t] })
  (base:Nat)(e:TypeId)(i:TypeInfo)(z:Value)(size bytes:Nat)(ht:P.underlying t=some (.slice e))(hi:P.info? e=some i)(V:i.zero=some z)
  (y:i.size=size)(E:i.bytes=bytes)(G:z.cells.size=size)(F:0<size)
  (v:Value)(n:Nat)(xs:List Value)(T:a.eval s=v)(A:w.ownsRow base e size v n xs)
  (C:Option Addr)(m c:Nat)(news:List Value)(U:a.eval x=.slice C m c)(M:news.length=m*size)(q:∀j u,news[j]?=some u→∃x:Addr,C=some x∧w.cell? (x.add j)=some u)(H:∀u∈news,u.oneCell'=true)
  (D:n+m≤maxLen)(f:(n+m)*bytes≤140737488355328)(g:base≤w.heap.size)
  (h:∀v' w',w'.ownsRow base e size v' (n+m) (xs++news)→w.grownBy w' v.ownBlock→(v'.ownBlock=v.ownBlock∨v'.ownBlock=some w.heap.size)→wpList P ops Q rest (a.put o.dst v') w'):wpList P ops Q (o::rest) a w:=by
 obtain⟨v',w',R,I,J,L⟩:=EX (P:=P) w base t o.type e i z size bytes ht hi V y E G F v n xs A C m c news M q H D f g;exact Lib.wpList_append_run w hgd s x t t O v _ T U v' w' R (h v' w' I J L)
theorem info_parts{P:Program}{e:TypeId}{z:Value}{n b:Nat}(h:(P.info? e).map (fun i=>(i.zero,i.size,i.bytes))=some (some z,n,b)):∃i,P.info? e=some i∧i.zero=some z∧i.size=n∧i.bytes=b:=by
 cases hi:P.info? e with
 | none=>rw[hi] at h;cases h
 | some i=>rw[hi] at h;simp at h;exact⟨i,rfl,h.1,h.2.1,h.2.2⟩
end Go.Proofs.YtgigilkpndhddaaGreatDoor.lite
namespace Go.Proofs.YtgigilkpndhddaaGreatDoor.syn
open Tryz
open Go.RowKit
theorem YI{w:World}{base n:Nat}{e:TypeId}{size:Nat}{v:Value}{xs:List Value}(h:w.ownsRow base e size v n xs):∃ad cap,v=.slice ad n cap:=by
 rcases h.2 with ⟨rfl,rfl⟩|⟨g,cap,cur,rfl,_⟩
 ·exact⟨none,0,rfl⟩
 exact⟨_,cap,rfl⟩
theorem own_below{w w':World}{base n:Nat}{e:TypeId}{size:Nat}{v:Value}{xs:List Value}(h:w.ownsRow base e size v n xs)(hb:Below w.heap.size w w'):w'.ownsRow base e size v n xs :=
 h.kept (row:=none) ⟨hb.os,hb.tape,hb.output,hb.size,fun k hk _=>hb.block k hk⟩ (by cases hv:v.ownBlock<;>simp)
theorem info_parts{P:Program}{e:TypeId}{z:Value}{n b:Nat}(h:(P.info? e).map (fun i=>(i.zero,i.size,i.bytes))=some (some z,n,b)):∃i,P.info? e=some i∧i.zero=some z∧i.size=n∧i.bytes=b:=by
 cases hi:P.info? e with
 | none=>rw[hi] at h;cases h
 | some i=>rw[hi] at h;simp at h;exact⟨i,rfl,h.1,h.2.1,h.2.2⟩
theorem YD{w:World}{b:Nat}{f g:Value}{t:TypeId}(h:w.heap[b]?=some (.cells #[f,g] t (0,0))):(w.cell? ⟨b,0,none⟩=some f∧w.cell? ⟨b,1,none⟩=some g)∧∀o,w.frozen? ⟨b,o,none⟩=false:=by
 refine⟨⟨?_,?_⟩,?_⟩
 all_goals first|(intro o;simp[World.frozen?,h])|simp[World.cell?,h]
theorem X3{w:World}{base:Nat}{e:TypeId}{size n:Nat}{v:Value}{xs:List Value}(h:w.ownsRow base e size v n xs):∀k,v.ownBlock=some k→base≤k:=by
 intro k f;rcases h.2 with ⟨rfl,_⟩|⟨g,cap,cur,rfl,hb,_⟩
 ·cases f
 simp[Value.ownBlock] at f;omega
theorem Xg{w:World}{base:Nat}{e:TypeId}{size n:Nat}{v:Value}{xs:List Value}(h:w.ownsRow base e size v n xs){B o:Nat}(hB:B<base)(u:Value):(w.setCell ⟨B,o,none⟩ u).ownsRow base e size v n xs :=
 h.kept (row:=some B) ⟨rfl,rfl,rfl,((Zg 0 w).setCell (p:=⟨B,o,none⟩) (Zk _) u).size,fun k _ hk=>Zr _ _ _ _ (fun e=>hk (by rw[e]))⟩ (Or.inr (fun e=>by have:=X3 h _ e;omega))
theorem Xd{w:World}{base base':Nat}{e:TypeId}{size n:Nat}{v:Value}{xs:List Value}(h:w.ownsRow base e size v n xs)(hb:base'≤base):w.ownsRow base' e size v n xs:=by
 refine⟨h.1,?_⟩;rcases h.2 with h0|⟨g,cap,cur,hv,hg,rest⟩
 ·exact .inl h0
 exact .inr ⟨g,cap,cur,hv,Zm hb hg,rest⟩
theorem EP{w w':World}{base:Nat}{e:TypeId}{size n:Nat}{v:Value}{xs:List Value}(h:w.ownsRow base e size v n xs){B:Nat}(hB:B<base)(hu:Upon B w w'):w'.ownsRow base e size v n xs :=
 h.kept (row:=some B) ⟨hu.os,hu.tape,hu.output,hu.size,fun k hk hne=>hu.block k hk (fun e=>hne (by rw[e]))⟩ (Or.inr (fun e=>by have:=X3 h _ e;omega))
theorem Zcn{w:World}{base n size:Nat}{e:TypeId}{q:Option Addr}{cap:Nat}{xs:List Value}(h:w.ownsRow base e size (.slice q n cap) n xs):∀j u,xs[j]?=some u→∃x:Addr,q=some x∧w.cell? (x.add j)=some u:=by
 intro j u f;rcases h.2 with ⟨h1,h2⟩|⟨g,cap',cur,h1,hb,hg,hnc,hcm,hcs,htk⟩
 ·have:=h.1;rw[h2,Nat.zero_mul] at this;rw[Yd this] at f;simp at f
 injection h1 with h1 _ _
 refine⟨_,h1,?_⟩;rw[show(⟨g,0,none⟩:Addr).add j=⟨g,j,none⟩ from by unfold Addr.add;split<;>simp_all];have m:j<n*size:=by rw[←h.1];exact(ZA.1 f).1
 rw[Z7 w _ _ cur e (0,0) hg,←f,←htk,Yo m,Array.getElem?_toList]
theorem Yx{w:World}{b:Nat}{f g j m:Value}{t:TypeId}(h:w.heap[b]?=some (.cells #[f,g,j,m] t (0,0))) :
  (w.cell? ⟨b,0,none⟩=some f∧w.cell? ⟨b,1,none⟩=some g∧w.cell? ⟨b,2,none⟩=some j∧w.cell? ⟨b,3,none⟩=some m)∧∀o,w.frozen? ⟨b,o,none⟩=false:=by
 refine⟨⟨?_,?_,?_,?_⟩,?_⟩
 all_goals first|(intro o;simp[World.frozen?,h])|simp[World.cell?,h]
inductive TT where
 | unk
 | ok (p f:Int)
 | bad (a e:Int)
def cvv(c:Int × Int):Value:=.agg #[.int .i64 c.1,.int .i64 c.2]
def TT.v:TT→Value
 | .unk=>.agg #[.int .i64 0,.int .i64 0,.bool false,.int .i64 0,.int .i64 0]
 | .ok p f=>.agg #[.int .i64 p,.int .i64 f,.bool true,.int .i64 0,.int .i64 0]
 | .bad a e=>.agg #[.int .i64 0,.int .i64 0,.bool false,.int .i64 a,.int .i64 e]
abbrev Env:Type:=ByteArray→Option (Int × Int)
def XY(L:List (ByteArray × Value))(env:Env):Prop:=∀nm,Xn nm L=(env nm).map cvv
def Xh(env:Env)(k:Int)(nm:ByteArray)(n d a:Int)(src:TT):TT :=
 if k=1 then match env nm with|some c=>.ok c.1 c.2|none=>.unk
 else match src with
  | .ok p f=>if k=2 then .ok p f else if (clock.YB p f k n d).2.2=0 then .ok (clock.YB p f k n d).1 (clock.YB p f k n d).2.1 else .bad a (clock.YB p f k n d).2.2
  | .unk=>.unk
  | .bad a e=>.bad a e
def YU(env:Env):PL→TT
 | .nil=>.unk
 | .cons k nm n d args a tl=>match Xh env k nm n d a (YU env args) with
  | .unk=>YU env tl
  | .ok p f=>.ok p f
  | .bad a e=>.bad a e
def Y1(env:Env)(e:PE):TT:=Xh env e.k e.nm e.n e.d e.a (YU env e.args)
def QY(env:Env)(L:List (ByteArray × Value))(e:PE):Prop:=∀(w:World)(ad:Option Addr)(cap mb:Nat),AE w e ad cap→YT w mb L →
 Calls prog 89 #[.map (some mb),.agg #[.int .i64 e.k,.string e.nm,.int .i64 e.n,.int .i64 e.d,.slice ad e.args.len cap,.int .i64 e.a]] w fun x w'=>x=.returned (Y1 env e).v∧Below w.heap.size w w'
def JW(env:Env)(L:List (ByteArray × Value))(l:PL):Prop:=∀(w:World)(ad:Option Addr)(cap mb:Nat),AS w l ad→l.len≤cap→cap≤9223372036854775807→YT w mb L →
 Calls prog 124 #[.map (some mb),.slice ad l.len cap] w fun x w'=>x=.returned (YU env l).v∧Below w.heap.size w w'
theorem ZaM{env:Env}{L:List (ByteArray × Value)}(O:XY L env)(e:PE)(V:JW env L e.args):QY env L e:=by
 intro w ad cap mb G hM;obtain⟨k,F,n,d,args,a⟩:=e;have T:=G.len;simp only at T V ⊢;unfold JW at V;have q:=hid G;have D:=hid hM;have z:=hid V;clear G hM V;obtain⟨r,g⟩:=ez (Y1 env ⟨k,F,n,d,args,a⟩);rw[g];unfold Y1 at g;simp only at g;by_cases y:k=1
 ·subst y;unfold Xh at g;rw[Z2 rfl] at g
  cases he:env F with
  | none =>
   rw[he] at g;have R:Xn F L=none:=by rw[O F,he];rfl
   subst g;clear O he;have X:=hid R;clear R;go_enter func89,ntmps89;go_wp2_with (at_lookup;refine Xs XG _ rfl _ _ rfl mb L F rfl rfl (D.out.below bq) X.out ?_);refine Zl (v:=TT.unk.v) (by simp only[results,results89];go_simp;try rfl) rfl ⟨?_,?_⟩
   ·rfl
   exact bq
  | some c =>
   rw[he] at g;have R:Xn F L=some (.agg #[.int .i64 c.1,.int .i64 c.2]):=by rw[O F,he];rfl
   obtain⟨c1,c2⟩:=c;subst g;clear O he;have X:=hid R;clear R;go_enter func89,ntmps89;go_wp2_with (at_lookup;refine X5 XG _ rfl _ _ rfl mb L F _ rfl rfl (D.out.below bq) X.out ?_);refine Zl (v:=(TT.ok c1 c2).v) (by simp only[results,results89];go_simp;try rfl) rfl ⟨?_,?_⟩
   ·rfl
   exact bq
 have aa:(k == 1)=false:=ZY.2 y;unfold Xh at g;rw[Z1 y] at g;clear O
 cases hs:YU env args with
 | unk =>
  rw[hs] at g z;simp only at g;subst g;simp only[TT.v] at z;clear y;by_cases j:k=2
  ·subst j;go_enter func89,ntmps89
   repeat' (first|(go_at_call 124;(with_reducible refine(z.out _ _ _ _ (q.out.args.below bq) q.out.len.1 q.out.len.2 (D.out.below bq)).mono ?_);rintro x m ⟨rfl,hb2⟩;obtain⟨A,C⟩:=YC hb2;have I:w.heap.size<m.heap.size:=Yy hb2 oq;have J:w.heap.size+1<m.heap.size:=Yy hb2 oq)|go_values|go_skip|go_guarded|go_step|go_upon|(simp only[Int.not_lt,Int.not_le] at *;go_simp)|(go_values<;>(try go_simp))|(go_ite<;>go_prune<;>(try go_simp))|(split<;>(first|(rename_i hx;exact(hx _ rfl).elim)|go_prune)))
   refine Zl (v:=TT.unk.v) (by simp only[results,results89];go_simp;try rfl) rfl ⟨?_,?_⟩
   ·rfl
   exact bq
  have E:(k == 2)=false:=ZY.2 j;clear j;go_enter func89,ntmps89
  repeat' (first|(go_at_call 124;(with_reducible refine(z.out _ _ _ _ (q.out.args.below bq) q.out.len.1 q.out.len.2 (D.out.below bq)).mono ?_);rintro x m ⟨rfl,hb2⟩;obtain⟨A,C⟩:=YC hb2;have I:w.heap.size<m.heap.size:=Yy hb2 oq;have J:w.heap.size+1<m.heap.size:=Yy hb2 oq)|go_values|go_skip|go_guarded|go_step|go_upon|(simp only[Int.not_lt,Int.not_le] at *;go_simp)|(go_values<;>(try go_simp))|(go_ite<;>go_prune<;>(try go_simp))|(split<;>(first|(rename_i hx;exact(hx _ rfl).elim)|go_prune)))
  refine Zl (v:=TT.unk.v) (by simp only[results,results89];go_simp;try rfl) rfl ⟨?_,?_⟩
  ·rfl
  exact bq
 | bad a1 e1 =>
  rw[hs] at g z;simp only at g;subst g;simp only[TT.v] at z;clear y;by_cases j:k=2
  ·subst j;go_enter func89,ntmps89
   repeat' (first|(go_at_call 124;(with_reducible refine(z.out _ _ _ _ (q.out.args.below bq) q.out.len.1 q.out.len.2 (D.out.below bq)).mono ?_);rintro x m ⟨rfl,hb2⟩;obtain⟨A,C⟩:=YC hb2;have I:w.heap.size<m.heap.size:=Yy hb2 oq;have J:w.heap.size+1<m.heap.size:=Yy hb2 oq)|go_values|go_skip|go_guarded|go_step|go_upon|(simp only[Int.not_lt,Int.not_le] at *;go_simp)|(go_values<;>(try go_simp))|(go_ite<;>go_prune<;>(try go_simp))|(split<;>(first|(rename_i hx;exact(hx _ rfl).elim)|go_prune)))
   refine Zl (v:=(TT.bad a1 e1).v) (by simp only[results,results89];go_simp;try rfl) rfl ⟨?_,?_⟩
   ·rfl
   exact bq
  have E:(k == 2)=false:=ZY.2 j;clear j;go_enter func89,ntmps89
  repeat' (first|(go_at_call 124;(with_reducible refine(z.out _ _ _ _ (q.out.args.below bq) q.out.len.1 q.out.len.2 (D.out.below bq)).mono ?_);rintro x m ⟨rfl,hb2⟩;obtain⟨A,C⟩:=YC hb2;have I:w.heap.size<m.heap.size:=Yy hb2 oq;have J:w.heap.size+1<m.heap.size:=Yy hb2 oq)|go_values|go_skip|go_guarded|go_step|go_upon|(simp only[Int.not_lt,Int.not_le] at *;go_simp)|(go_values<;>(try go_simp))|(go_ite<;>go_prune<;>(try go_simp))|(split<;>(first|(rename_i hx;exact(hx _ rfl).elim)|go_prune)))
  refine Zl (v:=(TT.bad a1 e1).v) (by simp only[results,results89];go_simp;try rfl) rfl ⟨?_,?_⟩
  ·rfl
  exact bq
 | ok p f =>
  rw[hs] at g z;simp only at g;simp only[TT.v] at z;by_cases j:k=2
  ·subst j;rw[Z2 rfl] at g;subst g;clear y;go_enter func89,ntmps89
   repeat' (first|(go_at_call 124;(with_reducible refine(z.out _ _ _ _ (q.out.args.below bq) q.out.len.1 q.out.len.2 (D.out.below bq)).mono ?_);rintro x m ⟨rfl,hb2⟩;obtain⟨A,C⟩:=YC hb2;have I:w.heap.size<m.heap.size:=Yy hb2 oq;have J:w.heap.size+1<m.heap.size:=Yy hb2 oq)|go_values|go_skip|go_guarded|go_step|go_upon|(simp only[Int.not_lt,Int.not_le] at *;go_simp)|(go_values<;>(try go_simp))|(go_ite<;>go_prune<;>(try go_simp))|(split<;>(first|(rename_i hx;exact(hx _ rfl).elim)|go_prune)))
   refine Zl (v:=(TT.ok p f).v) (by simp only[results,results89];go_simp;try rfl) rfl ⟨?_,?_⟩
   ·rfl
   exact bq
  have E:(k == 2)=false:=ZY.2 j;rw[Z1 j] at g;have M:=hid (fun w=>clock.VY p f k n d w);unfold clock.yz clock.Km at M;generalize clock.YB p f k n d=r at g M;obtain⟨r1,r2,r3⟩:=r;simp only at g M;clear y j;by_cases U:r3=0
  ·subst U;rw[Z2 rfl] at g;subst g;go_enter func89,ntmps89
   repeat' (first|(go_at_call 124;(with_reducible refine(z.out _ _ _ _ (q.out.args.below bq) q.out.len.1 q.out.len.2 (D.out.below bq)).mono ?_);rintro x m ⟨rfl,hb2⟩;obtain⟨A,C⟩:=YC hb2;have I:w.heap.size<m.heap.size:=Yy hb2 oq;have J:w.heap.size+1<m.heap.size:=Yy hb2 oq)|(go_at_call 77;(with_reducible refine(M.out _).mono ?_);rintro x H ⟨rfl,hb3⟩;obtain⟨Y,Z⟩:=YC hb3;have a4:w.heap.size<H.heap.size:=Yy hb3 oq;have a5:w.heap.size+1<H.heap.size:=Yy hb3 oq;have a6:m.heap.size<H.heap.size:=Yy hb3 oq)|go_values|go_skip|go_guarded|go_step|go_upon|(simp only[Int.not_lt,Int.not_le] at *;go_simp)|(go_values<;>(try go_simp))|(go_ite<;>go_prune<;>(try go_simp))|(split<;>(first|(rename_i hx;exact(hx _ rfl).elim)|go_prune)))
   refine Zl (v:=(TT.ok r1 r2).v) (by simp only[results,results89];go_simp;try rfl) rfl ⟨?_,?_⟩
   ·rfl
   exact bq
  rw[Z1 U] at g;subst g;have ab:(r3 == 0)=false:=ZY.2 U;clear U;go_enter func89,ntmps89
  repeat' (first|(go_at_call 124;(with_reducible refine(z.out _ _ _ _ (q.out.args.below bq) q.out.len.1 q.out.len.2 (D.out.below bq)).mono ?_);rintro x m ⟨rfl,hb2⟩;obtain⟨A,C⟩:=YC hb2;have I:w.heap.size<m.heap.size:=Yy hb2 oq;have J:w.heap.size+1<m.heap.size:=Yy hb2 oq)|(go_at_call 77;(with_reducible refine(M.out _).mono ?_);rintro x H ⟨rfl,hb3⟩;obtain⟨Y,Z⟩:=YC hb3;have a4:w.heap.size<H.heap.size:=Yy hb3 oq;have a5:w.heap.size+1<H.heap.size:=Yy hb3 oq;have a6:m.heap.size<H.heap.size:=Yy hb3 oq)|go_values|go_skip|go_guarded|go_step|go_upon|(simp only[Int.not_lt,Int.not_le] at *;go_simp)|(go_values<;>(try go_simp))|(go_ite<;>go_prune<;>(try go_simp))|(split<;>(first|(rename_i hx;exact(hx _ rfl).elim)|go_prune)))
  refine Zl (v:=(TT.bad a r3).v) (by simp only[results,results89];go_simp;try rfl) rfl ⟨?_,?_⟩
  ·rfl
  exact bq
def TT.good:TT→Prop
 | .bad _ e=>e≠0
 | _=>True
theorem E6{env:Env}{k:Int}{nm:ByteArray}{n d a:Int}{src:TT}(h:src.good):(Xh env k nm n d a src).good:=by
 unfold Xh;split
 ·split<;>trivial
 cases src with
 | unk=>trivial
 | bad a e=>exact h
 | ok p f =>
  simp only;split
  ·trivial
  split
  ·trivial
  assumption
theorem uL(env:Env):∀l:PL,(YU env l).good:=by
 intro l
 induction l with
 | nil=>trivial
 | cons k nm n d args a tl ih1 ih2 =>
  have h:=E6 (env:=env) (k:=k) (nm:=nm) (n:=n) (d:=d) (a:=a) ih1;unfold YU;generalize Xh env k nm n d a (YU env args)=t at h
  cases t with
  | unk=>exact ih2
  | ok p f=>trivial
  | bad a e=>exact h
theorem UA(env:Env)(e:PE):(Y1 env e).good:=E6 (uL env e.args)
def Qs(wr:World)(ad:Option Addr)(l rest:PL)(i:Nat):Prop :=
 i+rest.len=l.len∧rest.sz≤l.sz∧(rest=.nil∨∃b o,ad=some ⟨b,o,none⟩∧b<wr.heap.size∧AC wr rest b (o+i*6))
theorem Qs.start{w:World}{f:Option Addr}{l:PL}(h:AS w l f):Qs w f l l 0:=by
 refine⟨oq,Zc _,?_⟩;rcases h with h|⟨b,o,e,hb,h⟩
 ·exact .inl h
 exact .inr ⟨b,o,e,hb,by simpa using h⟩
theorem Qs.below{w w':World}{g:Option Addr}{l rest:PL}{i:Nat}(h:Qs w g l rest i)(hb:Below w.heap.size w w'):Qs w' g l rest i:=by
 obtain⟨j,m,f⟩:=h;refine⟨j,m,?_⟩;rcases f with f|⟨b,o,e,hlt,f⟩
 ·exact .inl f
 exact .inr ⟨b,o,e,Zd hlt hb.size,f.below hb _ _ _ hlt⟩
theorem Qs.tail{w:World}{g:Option Addr}{l j args:PL}{k n d a:Int}{nm:ByteArray}{i:Nat}(h:Qs w g l (.cons k nm n d args a j) i):Qs w g l j (i+1):=by
 obtain⟨m,q,f⟩:=h;refine⟨by simp only[PL.len] at m;omega,by simp only[PL.sz] at q;omega,?_⟩;rcases f with f|⟨b,o,e,hlt,f⟩
 ·cases f
 obtain⟨_,_,_,_,_,_,_,ht⟩:=f;exact .inr ⟨b,o,e,hlt,by rw[show o+(i+1)*6=o+i*6+6 by omega];exact ht⟩
theorem Gz{w:World}{b:Nat}{f g j m q:Value}{t:TypeId}(h:w.heap[b]?=some (.cells #[f,g,j,m,q] t (0,0))) :
  (w.cell? ⟨b,0,none⟩=some f∧w.cell? ⟨b,1,none⟩=some g∧w.cell? ⟨b,2,none⟩=some j∧w.cell? ⟨b,3,none⟩=some m∧w.cell? ⟨b,4,none⟩=some q)∧∀o,w.frozen? ⟨b,o,none⟩=false:=by
 refine⟨⟨?_,?_,?_,?_,?_⟩,?_⟩
 all_goals first|(intro o;simp[World.frozen?,h])|simp[World.cell?,h]
def ZfO(w:World)(env:Env)(L:List (ByteArray × Value))(l:PL)(ad:Option Addr)(mb:Nat)(v:Value)(wr:World):Prop :=
 ∃(i:Nat)(rest:PL),v=.int .i64 (i:Int)∧Qs wr ad l rest i∧YU env rest=YU env l ∧
  wr.heap[w.heap.size]?=some (.cells #[.int .i64 0,.int .i64 0,.bool false,.int .i64 0,.int .i64 0] 172 (0,0))∧Below w.heap.size w wr
theorem vU{env:Env}{L:List (ByteArray × Value)}(l:PL)(ih:∀e:PE,e.args.sz<l.sz→QY env L e):JW env L l:=by
 intro w ad cap mb hs ae ag hM;have HS:=hid hs;have HM:=hid hM;have Z:=hid ih;clear hs hM ih;obtain⟨r,hr⟩:=ez (YU env l);rw[hr];have HR:=hid hr;clear hr;go_enter func124,ntmps124;go_wp2;go_loopw [10] (fun v wr=>Hid (ZfO w env L l ad mb v wr)) (fun i _=>l.len-(intOf i).toNat)
 case atStart=>exact⟨0,l,rfl,(Qs.start HS.out).below bq,rfl,Yw w _,bq⟩
 obtain⟨i,rest,rfl,m,g,y,hbel⟩:=hrel.out;clear hrel;obtain⟨⟨x0,x1,x2,x3,x4⟩,xf⟩:=Gz y;have q:=hid y;have HBEL:=hid hbel;have R:=m.1;have A:=Zb y;have D:=hid m;have G:=hid g;clear y hbel m g
 cases rest with
 | nil =>
  have T:(i:Int)=(l.len:Int):=by simp only[PL.len] at R;omega
  have X:=G.out;rw[YU] at X;have F:r=.unk:=by rw[←HR.out,←X]
  subst F;clear X
  repeat' (first|go_values|go_skip|go_guarded|go_step|go_upon|(simp only[Int.not_lt,Int.not_le] at *;go_simp)|(go_values<;>(try go_simp))|(go_ite<;>go_prune<;>(try go_simp))|(split<;>(first|(rename_i hx;exact(hx _ rfl).elim)|go_prune)))
  refine Zl (v:=TT.unk.v) (by simp only[results,results124];go_simp;try rfl) rfl ⟨?_,?_⟩
  ·rfl
  exact bq
 | cons k1 nm1 n1 d1 args1 a1 tl =>
  have T:(i:Int)<(l.len:Int):=by simp only[PL.len] at R;omega
  obtain⟨b,o,rfl,hb,X,F,h2,h3,h5,hn,⟨ac,H,h4,E,J,M⟩,ht⟩:=D.out.2.2.resolve_left (by intro h;cases h);have U:=D.out.2.1;simp only[PL.sz] at U;have z:=hid (Z.out ⟨k1,nm1,n1,d1,args1,a1⟩ (by show args1.sz<l.sz;omega));have Y:=hid (show AE wr ⟨k1,nm1,n1,d1,args1,a1⟩ ac H from ⟨hn,⟨E,J⟩,M⟩);have hgd:=UA env ⟨k1,nm1,n1,d1,args1,a1⟩;have g:=G.out;rw[YU] at g;unfold QY at z;simp only at z;have V:Y1 env ⟨k1,nm1,n1,d1,args1,a1⟩=Xh env k1 nm1 n1 d1 a1 (YU env args1):=rfl;rw[←V] at g;generalize Y1 env ⟨k1,nm1,n1,d1,args1,a1⟩=t at g hgd z;clear V ht hn M
  cases t with
  | unk =>
   simp only at g;simp only[TT.v] at z;have aa:=hid g;clear g hgd
   repeat' (first|(go_at_call 89;(with_reducible refine(z.out _ _ _ _ (Y.out.below bq) (HM.out.below bq)).mono ?_);rintro x C ⟨rfl,hb2⟩;obtain⟨I,O⟩:=YC hb2;have a2:w.heap.size<C.heap.size:=Yy hb2 oq;have a3:wr.heap.size<C.heap.size:=Yy hb2 oq;have j:=(hb2.block w.heap.size oq).trans ((Z5 _ _ A).trans q.out);obtain⟨⟨y0,y1,y2,y3,y4⟩,yf⟩:=Gz j;clear j)|go_values|go_skip|go_guarded|go_step|go_upon|(simp only[Int.not_lt,Int.not_le] at *;go_simp)|(go_values<;>(try go_simp))|(go_ite<;>go_prune<;>(try go_simp))|(split<;>(first|(rename_i hx;exact(hx _ rfl).elim)|go_prune)))
   go_roundw
   case rel=>exact⟨i+1,tl,by go_num,D.out.tail.below bq,aa.out,(Below.block (show Below wr.heap.size wr _ from bq) _ A).trans q.out,bq⟩
   simp[intOf];omega
  | ok p f =>
   simp only at g;simp only[TT.v] at z;have F:r=.ok p f:=by rw[←HR.out,←g]
   subst F;clear g hgd
   repeat' (first|(go_at_call 89;(with_reducible refine(z.out _ _ _ _ (Y.out.below bq) (HM.out.below bq)).mono ?_);rintro x C ⟨rfl,hb2⟩;obtain⟨I,O⟩:=YC hb2;have a2:w.heap.size<C.heap.size:=Yy hb2 oq;have a3:wr.heap.size<C.heap.size:=Yy hb2 oq;have j:=(hb2.block w.heap.size oq).trans ((Z5 _ _ A).trans q.out);obtain⟨⟨y0,y1,y2,y3,y4⟩,yf⟩:=Gz j;clear j)|go_values|go_skip|go_guarded|go_step|go_upon|(simp only[Int.not_lt,Int.not_le] at *;go_simp)|(go_values<;>(try go_simp))|(go_ite<;>go_prune<;>(try go_simp))|(split<;>(first|(rename_i hx;exact(hx _ rfl).elim)|go_prune)))
   refine Zl (v:=(TT.ok p f).v) (by simp only[results,results124];go_simp;try rfl) rfl ⟨?_,?_⟩
   ·rfl
   exact bq
  | bad ab eb =>
   simp only at g;simp only[TT.v] at z;have F:r=.bad ab eb:=by rw[←HR.out,←g]
   subst F;have af:(eb == 0)=false:=ZY.2 hgd;clear g hgd
   repeat' (first|(go_at_call 89;(with_reducible refine(z.out _ _ _ _ (Y.out.below bq) (HM.out.below bq)).mono ?_);rintro x C ⟨rfl,hb2⟩;obtain⟨I,O⟩:=YC hb2;have a2:w.heap.size<C.heap.size:=Yy hb2 oq;have a3:wr.heap.size<C.heap.size:=Yy hb2 oq;have j:=(hb2.block w.heap.size oq).trans ((Z5 _ _ A).trans q.out);obtain⟨⟨y0,y1,y2,y3,y4⟩,yf⟩:=Gz j;clear j)|go_values|go_skip|go_guarded|go_step|go_upon|(simp only[Int.not_lt,Int.not_le] at *;go_simp)|(go_values<;>(try go_simp))|(go_ite<;>go_prune<;>(try go_simp))|(split<;>(first|(rename_i hx;exact(hx _ rfl).elim)|go_prune)))
   refine Zl (v:=(TT.bad ab eb).v) (by simp only[results,results124];go_simp;try rfl) rfl ⟨?_,?_⟩
   ·rfl
   exact bq
theorem Zc1{env:Env}{L:List (ByteArray × Value)}(g:XY L env):∀(N:Nat),(∀l:PL,l.sz<N→JW env L l)∧(∀e:PE,e.args.sz<N→QY env L e):=by
 intro N
 induction N with
 | zero=>exact⟨fun l h=>absurd h (Yl _),fun e h=>absurd h (Yl _)⟩
 | succ N ih =>
  have f:∀l:PL,l.sz<N+1→JW env L l:=fun l h=>vU l (fun e he=>ih.2 e oq)
  exact⟨f,fun e h=>ZaM g e (f _ h)⟩
theorem za{env:Env}{L:List (ByteArray × Value)}(hE:XY L env)(e:PE):QY env L e:=(Zc1 hE _).2 e (ZW _)
theorem U1(k:ByteArray)(v:Value)(nm:ByteArray):∀L:List (ByteArray × Value),Xn nm (JJ k v L)=if nm=k then some v else Xn nm L:=by
 intro L
 induction L with
 | nil=>unfold JJ Xn;rfl
 | cons p L ih =>
  unfold JJ;by_cases f:k=p.1
  ·rw[Z2 f];unfold Xn;by_cases h:nm=k
   ·rw[Z2 h,Z2 h]
   rw[Z1 h,Z1 h,Z1 (by rw[←f];exact h)]
  rw[Z1 f];unfold Xn;by_cases h:nm=p.1
  ·rw[Z2 h,Z2 h,Z1 (by rw[h];exact fun e=>f e.symm)]
  rw[Z1 h,Z1 h];exact ih
theorem jB(k:ByteArray)(v:Value):∀L:List (ByteArray × Value),Xn k L=none→(JJ k v L).length=L.length+1:=by
 intro L
 induction L with
 | nil=>intro _;rfl
 | cons p L ih =>
  intro h;unfold Xn at h;by_cases f:k=p.1
  ·rw[Z2 f] at h;cases h
  rw[Z1 f] at h;unfold JJ;rw[Z1 f,Zp,ih h,Zp]
def upd(env:Env)(k:ByteArray)(c:Int × Int):Env:=fun nm=>if nm=k then some c else env nm
theorem XY.put{L:List (ByteArray × Value)}{env:Env}(h:XY L env)(k:ByteArray)(c:Int × Int):XY (JJ k (cvv c) L) (upd env k c):=by
 intro g;rw[U1];unfold upd;by_cases f:g=k
 ·rw[Z2 f,Z2 f];rfl
 rw[Z1 f,Z1 f];exact h g
def qI(w:World)(mb:Nat):Nat:=match w.heap[mb]? with|some (.map arr _)=>arr.size|_=>0
theorem YT.size{w:World}{mb:Nat}{L:List (ByteArray × Value)}(h:YT w mb L):qI w mb=L.length:=by
 obtain⟨arr,clock,f,g⟩:=h;unfold qI;rw[f];have:=Z3 List.length g;simpa using this
theorem FlC.cells{w:World}{b o:Nat}{nm nm1:ByteArray}{z A q j v:Int}{f:PL}(h:FlC w b o ⟨nm,⟨z,nm1,A,q,f,j⟩,v⟩):∃ad cap,
  w.cell? ⟨b,o,none⟩=some (.string nm)∧w.cell? ⟨b,o+1,none⟩=some (.int .i64 z)∧w.cell? ⟨b,o+2,none⟩=some (.string nm1)∧w.cell? ⟨b,o+3,none⟩=some (.int .i64 A)∧w.cell? ⟨b,o+4,none⟩=some (.int .i64 q) ∧
  w.cell? ⟨b,o+5,none⟩=some (.slice ad f.len cap)∧w.cell? ⟨b,o+6,none⟩=some (.int .i64 j)∧w.cell? ⟨b,o+7,none⟩=some (.int .i64 v)∧AE w ⟨z,nm1,A,q,f,j⟩ ad cap∧(nm.size≤9223372036854775807∧I64 v):=by
 obtain⟨C,⟨m,g,D,E,F,G,H,I,x⟩,J,y⟩:=h;exact⟨m,g,C,D,E,F,G,H,I,J,x,y⟩
theorem yR{l:List FL}{i:Nat}(h:i<l.length):l.drop i=l[i]::l.drop (i+1):=by rw[ZN h]
theorem YT.upon{w w':World}{mb r:Nat}{L:List (ByteArray × Value)}(h:YT w mb L)(m:Upon r w w')(f:mb≠r):YT w' mb L:=by
 obtain⟨arr,clock,g,j⟩:=h;exact⟨arr,clock,(m.block mb (Zb g) f).trans g,j⟩
structure FW (W0 w wr:World) (mb:Nat) (L:List (ByteArray × Value)) (env:Env):Prop where
 upon:Upon mb w wr
 map:YT wr mb L
 env:XY L env
def isT:Value→Nat
 | .bool true=>1
 | _=>0
def Uo:Ending:=.returned (.tuple #[.int .i64 0,.int .i64 0])
theorem J1(p q m v:Int)(w:World):(Op.equal 62 (.agg #[.int .i64 p,.int .i64 q]) (.agg #[.int .i64 m,.int .i64 v])).run prog w=.ok (decide (p=m∧q=v)) w:=by
 have E:prog.underlying 62=some (.struct (prog.fieldsOf 62)):=by kernel_rfl
 have D:prog.stoodInHeld 62=false:=by kernel_rfl
 have g : (prog.fieldsOf 62).toList.map (fun f => (f.name, f.type, f.offset)) = [("Period", 2, 0), ("Phase", 2, 1)] := by kernel_rfl
 obtain ⟨f1, j, z, F, J, H, G, L, I⟩ : ∃ f1 j, (prog.fieldsOf 62).toList = [f1, j] ∧ f1.name = "Period" ∧ f1.type = 2 ∧ f1.offset = 0 ∧ j.name = "Phase" ∧ j.type = 2 ∧ j.offset = 1 := by
  generalize (prog.fieldsOf 62).toList=l at g
  cases l with
  | nil=>simp at g
  | cons f1 l =>
   cases l with
   | nil=>simp at g
   | cons j l =>
    cases l with
    | nil=>simp at g;exact⟨f1,j,rfl,g.1.1,g.1.2.1,g.1.2.2,g.2.1,g.2.2.1,g.2.2.2⟩
    | cons f3 l=>simp at g
 unfold Op.equal;rw[show Op.maxDepth=9998+1+1 from rfl,run_equalIn_agg w (9998+1) 62 _ _ E D,z];have hi:(isAgg 2).run prog w=.ok false w:=by kernel_rfl
 have C:(Op.equalIn (9998+1) 2 (.int .i64 p) (.int .i64 m)).run prog w=.ok (p == m) w:=run_equalIn_int w 9998 2 .i64 .i64 _ _ underlying2;have A:(Op.equalIn (9998+1) 2 (.int .i64 q) (.int .i64 v)).run prog w=.ok (q == v) w:=run_equalIn_int w 9998 2 .i64 .i64 _ _ underlying2;simp only[Op.eqFields,F,J,H,G,L,I];simp[part,hi,C,A];by_cases x:p=m<;>by_cases y:q=v<;>simp[x,y]
def TT.clk:TT→Int × Int
 | .ok p f=>(p,f)
 | _=>(0,0)
def ckL(env:Env)(c:Int × Int):PL→Bool
 | .nil=>true
 | .cons k nm n d args a tl=>match Xh env k nm n d a (YU env args) with
  | .bad _ _=>false
  | .unk=>decide ((0,0)=c)&&ckL env c tl
  | .ok p f=>decide ((p,f)=c)&&ckL env c tl
def ckA(env:Env):PL→Bool
 | .nil=>true
 | .cons k nm n d args a tl=>match Xh env k nm n d a (YU env args) with
  | .bad _ _=>false
  | .unk=>ckL env (0,0) tl
  | .ok p f=>ckL env (p,f) tl
end Go.Proofs.YtgigilkpndhddaaGreatDoor.syn
