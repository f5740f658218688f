/-
  Parts of the proof: Gath2.
-/
import Derived.Deep.RegionHeld3
import Derived.Deep.Upon
import Derived.Test.YtgigilkpndhddaaGreatDoorQ12
namespace Go.Proofs.YtgigilkpndhddaaGreatDoor.syn
set_option linter.unusedVariables false
set_option linter.unusedSimpArgs false
set_option linter.unnecessarySimpa false
set_option maxRecDepth 100000
set_option maxHeartbeats 16000000
open Go.RowKit
theorem XB {w:World} {b:Nat} {v0 v1 v2:Value} {t:TypeId} (h:w.heap[b]?=some (.cells #[v0,v1,v2] t (0,0))) :
  (w.cell? ⟨b,0,none⟩=some v0∧w.cell? ⟨b,1,none⟩=some v1∧w.cell? ⟨b,2,none⟩=some v2)∧∀o,w.frozen? ⟨b,o,none⟩=false:=by
 refine⟨⟨?_,?_,?_⟩,?_⟩
 all_goals first|(intro o;simp[World.frozen?,h])|simp[World.cell?,h]
theorem J2 {P:Program} {e:TypeId} {z:Value} {n b:Nat} (h:(P.info? e).map (fun i=>(i.zero,i.size,i.bytes))=some (some z,n,b)):∃i,P.info? e=some i∧i.zero=some z∧i.size=n∧i.bytes=b:=by
 cases hi:P.info? e with
 | none=>rw[hi] at h;cases h
 | some i=>rw[hi] at h;simp at h;exact⟨i,rfl,h.1,h.2.1,h.2.2⟩
theorem kJ:(Tryz.prog.info? 88).map (fun i=>(i.zero,i.size,i.bytes))=some (some (.agg #[.int .i64 0,.string ⟨#[]⟩,.int .i64 0,.int .i64 0,.slice none 0 0,.int .i64 0]),6,72):=by kernel_rfl
theorem Zcd:(Tryz.prog.info? 289).map (fun i=>(i.zero,i.size,i.bytes))=some (some (.agg #[.pointer none,.int .i64 0,.int .i64 0]),3,24):=by kernel_rfl
theorem Zbo {w:World} {base:Nat} {e:TypeId} {size:Nat} {v:Value} {n:Nat} {xs:List Value} (h:w.ownsRow base e size v n xs) {b:Nat} (hb:b<base):some b≠v.ownBlock:=by
 intro e
 have:=(h.lt b e.symm).1
 omega
theorem Xn {w:World} {base:Nat} {e t:TypeId} {size:Nat} {v:Value} {n:Nat} {xs:List Value} (h:w.ownsRow base e size v n xs) {b:Nat} {cs:Array Value} {fr:Nat × Nat} (hb:w.heap[b]?=some (.cells cs t fr)) (ht:t≠e):some b≠v.ownBlock:=by
 intro he
 rcases h.2 with ⟨h1,_⟩|⟨g,cap,cur,h1,_,hg,_⟩
 ·rw[h1] at he;cases he
 rw[h1] at he
 injection he with he
 have he:b=g:=he
 subst he
 rw[hb] at hg
 injection hg with hg
 injection hg with _ hg _
 exact ht hg
def zEx:List Value:=[.int .i64 0,.string ⟨#[]⟩,.int .i64 0,.int .i64 0,.slice none 0 0,.int .i64 0]
structure Zdr (w w4:World) (gb b o gg nn:Nat) (vn:Value) (k:Int) (nm:ByteArray) (n d a:Int):Prop where
 ne:(gg≠gb∧gg≠b)∧¬gb=gg∧¬b=gg
 c0:w4.cell? ⟨b,o,none⟩=some (.int .i64 k)
 c1:w4.cell? ⟨b,o+1,none⟩=some (.string nm)
 c2:w4.cell? ⟨b,o+2,none⟩=some (.int .i64 n)
 c3:w4.cell? ⟨b,o+3,none⟩=some (.int .i64 d)
 c5:w4.cell? ⟨b,o+5,none⟩=some (.int .i64 a)
 g0:w4.cell? ⟨gb,0,none⟩=some vn
 gf:w4.frozen? ⟨gb,0,none⟩=false
 f:w4.frozen? ⟨gg,nn*6,none⟩=false∧w4.frozen? ⟨gg,nn*6+1,none⟩=false∧w4.frozen? ⟨gg,nn*6+2,none⟩=false∧w4.frozen? ⟨gg,nn*6+3,none⟩=false∧w4.frozen? ⟨gg,nn*6+4,none⟩=false∧w4.frozen? ⟨gg,nn*6+5,none⟩=false
 q:w4.cell? ⟨gg,nn*6,none⟩=some (.int .i64 0)∧w4.cell? ⟨gg,nn*6+1,none⟩=some (.string ⟨#[]⟩)∧w4.cell? ⟨gg,nn*6+2,none⟩=some (.int .i64 0)∧w4.cell? ⟨gg,nn*6+3,none⟩=some (.int .i64 0)∧w4.cell? ⟨gg,nn*6+4,none⟩=some (.slice none 0 0)∧w4.cell? ⟨gg,nn*6+5,none⟩=some (.int .i64 0)
theorem kj {w w4:World} {base gb b o nn gg cap:Nat} {vn vo vm:Value} {xs:List Value} {ob:Obj} {k n d a:Int} {nm:ByteArray} (hb:w.heap[gb]?=some (.cells #[vn,vo,vm] 276 (0,0))) (hon:w.ownsRow base 88 6 vn nn xs) (hlt:b<base) (hbase:base≤w.heap.size)
  (d0:w.cell? ⟨b,o,none⟩=some (.int .i64 k)) (d1:w.cell? ⟨b,o+1,none⟩=some (.string nm)) (d2:w.cell? ⟨b,o+2,none⟩=some (.int .i64 n)) (d3:w.cell? ⟨b,o+3,none⟩=some (.int .i64 d)) (d5:w.cell? ⟨b,o+5,none⟩=some (.int .i64 a))
  (hown:w4.ownsRow base 88 6 (.slice (some ⟨gg,0,none⟩) (nn+1) cap) (nn+1) (xs++zEx)) (hg:((w.drew).alloc ob).grownBy w4 vn.ownBlock) (hat:vn.ownBlock=some gg∨gg=w.heap.size+1):Zdr w w4 gb b o gg nn vn k nm n d a:=by
 have hgl:=Zb hb
 have e1:=Xn hon hb (by decide)
 have e2:=Zbo hon hlt
 have n1:gg≠gb:=by
  intro e
  rcases hat with h|h
  ·rw[e] at h;exact e1 h.symm
  omega
 have n2:gg≠b:=by
  intro e
  rcases hat with h|h
  ·rw[e] at h;exact e2 h.symm
  omega
 obtain⟨⟨x0,x1,x2⟩,xf⟩:=XB hb
 have kc:∀(bb oo:Nat),bb<w.heap.size→some bb≠vn.ownBlock→w4.cell? ⟨bb,oo,none⟩=w.cell? ⟨bb,oo,none⟩:=fun bb oo h1 h2=>(hg.cell_far ⟨bb,oo,none⟩ (by simp;omega) h2).trans ((Zg w.heap.size w).drew.alloc (by exact Zc _) ob |>.cell (p:=⟨bb,oo,none⟩) h1)
 have kf:∀(bb oo:Nat),bb<w.heap.size→some bb≠vn.ownBlock→w4.frozen? ⟨bb,oo,none⟩=w.frozen? ⟨bb,oo,none⟩:=fun bb oo h1 h2=>(hg.frozen_far ⟨bb,oo,none⟩ (by simp;omega) h2).trans ((Zg w.heap.size w).drew.alloc (by exact Zc _) ob |>.frozen (p:=⟨bb,oo,none⟩) h1)
 have ff:=fun j=>hown.frozenAt j
 have qq:∀j,j<6→w4.cell? ⟨gg,nn*6+j,none⟩=zEx[j]?:=by
  intro j hj
  rw[hown.cellAt _ oq,List.getElem?_append_right (by rw[hon.1];omega),hon.1,Nat.add_sub_cancel_left]
 refine⟨⟨⟨n1,n2⟩,fun e=>n1 e.symm,fun e=>n2 e.symm⟩,(kc b _ oq e2).trans d0,(kc b _ oq e2).trans d1,(kc b _ oq e2).trans d2,(kc b _ oq e2).trans d3,(kc b _ oq e2).trans d5,(kc gb _ hgl e1).trans x0,(kf gb _ hgl e1).trans (xf 0),⟨ff _,ff _,ff _,ff _,ff _,ff _⟩,⟨qq 0 oq,qq 1 oq,qq 2 oq,qq 3 oq,qq 4 oq,qq 5 oq⟩⟩
def s6 (w:World) (g o:Nat) (v0 v1 v2 v3 v4 v5:Value):World:=(((((w.setCell ⟨g,o,none⟩ v0).setCell ⟨g,o+1,none⟩ v1).setCell ⟨g,o+2,none⟩ v2).setCell ⟨g,o+3,none⟩ v3).setCell ⟨g,o+4,none⟩ v4).setCell ⟨g,o+5,none⟩ v5
theorem eJ {w:World} {base:Nat} {e:TypeId} {size g n cap:Nat} {ys:List Value} (h:w.ownsRow base e size (.slice (some ⟨g,0,none⟩) n cap) n ys) (o:Nat) (v0 v1 v2 v3 v4 v5:Value) :
  (s6 w g o v0 v1 v2 v3 v4 v5).ownsRow base e size (.slice (some ⟨g,0,none⟩) n cap) n ((((((ys.set o v0).set (o+1) v1).set (o+2) v2).set (o+3) v3).set (o+4) v4).set (o+5) v5) :=
 (((((((h.stored o v0).1).stored (o+1) v1).1.stored (o+2) v2).1.stored (o+3) v3).1.stored (o+4) v4).1.stored (o+5) v5).1
theorem Kg (w:World) (g o:Nat) (v0 v1 v2 v3 v4 v5:Value) (k:Nat) (hk:k≠g):(s6 w g o v0 v1 v2 v3 v4 v5).heap[k]?=w.heap[k]?:=by
 have hs:∀(w:World) (o:Nat) (v:Value),(w.setCell ⟨g,o,none⟩ v).heap[k]?=w.heap[k]?:=fun w o v=>heap_setCell_other w ⟨g,o,none⟩ k v hk
 unfold s6
 simp only[hs]
theorem Y2 (w:World) (a:Addr) (v:Value):(w.setCell a v).os=w.os∧(w.setCell a v).tape=w.tape∧(w.setCell a v).output=w.output:=⟨rfl,rfl,rfl⟩
theorem Jv (w:World) (g o:Nat) (v0 v1 v2 v3 v4 v5:Value):(s6 w g o v0 v1 v2 v3 v4 v5).os=w.os∧(s6 w g o v0 v1 v2 v3 v4 v5).tape=w.tape∧(s6 w g o v0 v1 v2 v3 v4 v5).output=w.output:=by
 unfold s6;simp only[Y2,and_self]
theorem jB (w:World) (g o:Nat) (v0 v1 v2 v3 v4 v5:Value):(s6 w g o v0 v1 v2 v3 v4 v5).heap.size=w.heap.size:=by simp[s6,World.setCell]
theorem ZcV {xs:List Value} {n:Nat} (hx:xs.length=n*6) (z0 z1 z2 z3 z4 z5 v0 v1 v2 v3 v4 v5:Value) :
  ((((((xs++[z0,z1,z2,z3,z4,z5]).set (n*6) v0).set (n*6+1) v1).set (n*6+2) v2).set (n*6+3) v3).set (n*6+4) v4).set (n*6+5) v5=xs++[v0,v1,v2,v3,v4,v5]:=by
 have e:∀(i:Nat) (l:List Value) (v:Value),(xs++l).set (n*6+i) v=xs++l.set i v:=fun i l v=>by rw[List.set_append_right _ _ oq];congr 2;omega
 have e0:=e 0
 simp only[Nat.add_zero] at e0
 rw[e0,e,e,e,e,e]
 rfl
theorem qe {w:World} {gb mb:Nat} {vn vo:Value} (h:w.heap[gb]?=some (Xk vn vo mb)) (v':Value):(w.setCell ⟨gb,0,none⟩ v').heap[gb]?=some (Xk v' vo mb) :=
 Zj w gb 0 _ _ v' h
theorem jT {w:World} {gb mb:Nat} {vn vo:Value} (h:w.heap[gb]?=some (Xk vn vo mb)) (v':Value):(w.setCell ⟨gb,1,none⟩ v').heap[gb]?=some (Xk vn v' mb) :=
 Zj w gb 1 _ _ v' h
theorem vg {k:Int} {nm:ByteArray} {n d a:Int}:NmR [.int .i64 k,.string nm,.int .i64 n,.int .i64 d,.slice none 0 0,.int .i64 a] 1 :=
 ⟨by simp[Value.oneCell'],fun j hj=>by obtain rfl:j=0:=oq;exact⟨k,nm,n,d,a,rfl,rfl,rfl,rfl,rfl,rfl⟩⟩
theorem uD {W1 w w4:World} {gb mb nn gg cap:Nat} {stk:List SE} {vn vo:Value} {xs:List Value} {ob:Obj} (h:GW W1 gb mb nn stk w) (hgb:w.heap[gb]?=some (Xk vn vo mb)) (hon:w.ownsRow W1.heap.size 88 6 vn nn xs) (hnm:NmR xs nn)
  (hown:w4.ownsRow W1.heap.size 88 6 (.slice (some ⟨gg,0,none⟩) (nn+1) cap) (nn+1) (xs++zEx)) (hg:((w.drew).alloc ob).grownBy w4 vn.ownBlock) (hat:vn.ownBlock=some gg∨gg=w.heap.size+1) (hne:gg≠gb) (k:Int) (nm:ByteArray) (n d a:Int) :
  GW W1 gb mb (nn+1) stk ((s6 w4 gg (nn*6) (.int .i64 k) (.string nm) (.int .i64 n) (.int .i64 d) (.slice none 0 0) (.int .i64 a)).setCell ⟨gb,0,none⟩ (.slice (some ⟨gg,0,none⟩) (nn+1) cap)) ∧
  GW W1 gb mb (nn+1) stk (s6 (w4.setCell ⟨gb,0,none⟩ (.slice (some ⟨gg,0,none⟩) (nn+1) cap)) gg (nn*6) (.int .i64 k) (.string nm) (.int .i64 n) (.int .i64 d) (.slice none 0 0) (.int .i64 a)):=by
 have hgl:=Zb hgb
 have e1:=Xn hon hgb (by decide)
 have hal:∀j,j<w.heap.size→((w.drew).alloc ob).heap[j]?=w.heap[j]?:=fun j hj=>Za w.drew ob j hj
 have h4b:∀j,j<w.heap.size→vn.ownBlock≠some j→w4.heap[j]?=w.heap[j]?:=fun j hj hn=>(hg.block j (by simp;omega) (fun e=>hn e.symm)).trans (hal j hj)
 have hgb4:w4.heap[gb]?=some (Xk vn vo mb):=(h4b gb hgl (fun e=>e1 e.symm)).trans hgb
 have hs4:w.heap.size≤w4.heap.size:=by have:=hg.size;simp at this;omega
 have hkg:∀j,j<w.heap.size→¬(j=gb∨vn.ownBlock=some j)→j≠gg:=by
  intro j hj hn e
  rcases hat with h1|h1
  ·exact hn (.inr (by rw[e];exact h1))
  omega
 refine⟨h.names hgb hon ⟨?_,?_,?_,?_,fun j hj hn=>?_⟩ (qe ((Kg w4 gg _ _ _ _ _ _ _ gb (fun e=>hne e.symm)).trans hgb4) _) (xs':=xs++[.int .i64 k,.string nm,.int .i64 n,.int .i64 d,.slice none 0 0,.int .i64 a]) ?_ (hnm.snoc hon.1 vg) oq,
  h.names hgb hon ⟨?_,?_,?_,?_,fun j hj hn=>?_⟩ ((Kg _ gg _ _ _ _ _ _ _ gb (fun e=>hne e.symm)).trans (qe hgb4 _)) (xs':=xs++[.int .i64 k,.string nm,.int .i64 n,.int .i64 d,.slice none 0 0,.int .i64 a]) ?_ (hnm.snoc hon.1 vg) oq⟩
 ·exact((Y2 _ _ _).1.trans (Jv _ _ _ _ _ _ _ _ _).1).trans hg.os
 ·exact((Y2 _ _ _).2.1.trans (Jv _ _ _ _ _ _ _ _ _).2.1).trans hg.tape
 ·exact((Y2 _ _ _).2.2.trans (Jv _ _ _ _ _ _ _ _ _).2.2).trans hg.output
 ·rw[show((s6 w4 gg (nn*6) (.int .i64 k) (.string nm) (.int .i64 n) (.int .i64 d) (.slice none 0 0) (.int .i64 a)).setCell ⟨gb,0,none⟩ (.slice (some ⟨gg,0,none⟩) (nn+1) cap)).heap.size=w4.heap.size by rw[←jB w4 gg (nn*6) (.int .i64 k) (.string nm) (.int .i64 n) (.int .i64 d) (.slice none 0 0) (.int .i64 a)];simp[World.setCell]];exact hs4
 ·rw[heap_setCell_other _ _ _ _ (show j≠gb from fun e=>hn (.inl e)),Kg _ _ _ _ _ _ _ _ _ _ (hkg j hj hn)]
  exact h4b j hj (fun e=>hn (.inr e))
 ·have:=eJ hown (nn*6) (.int .i64 k) (.string nm) (.int .i64 n) (.int .i64 d) (.slice none 0 0) (.int .i64 a)
  rw[zEx,ZcV hon.1] at this
  exact YW this fun j hj=>heap_setCell_other _ _ _ _ (fun e=>hne (by have:some gg=some j:=hj;injection this with this;rw[this];exact e))
 ·exact((Jv _ _ _ _ _ _ _ _ _).1.trans (Y2 _ _ _).1).trans hg.os
 ·exact((Jv _ _ _ _ _ _ _ _ _).2.1.trans (Y2 _ _ _).2.1).trans hg.tape
 ·exact((Jv _ _ _ _ _ _ _ _ _).2.2.trans (Y2 _ _ _).2.2).trans hg.output
 ·rw[jB];simpa [World.setCell] using hs4
 ·rw[Kg _ _ _ _ _ _ _ _ _ _ (hkg j hj hn),heap_setCell_other _ _ _ _ (show j≠gb from fun e=>hn (.inl e))]
  exact h4b j hj (fun e=>hn (.inr e))
 have hown':(w4.setCell ⟨gb,0,none⟩ (.slice (some ⟨gg,0,none⟩) (nn+1) cap)).ownsRow W1.heap.size 88 6 (.slice (some ⟨gg,0,none⟩) (nn+1) cap) (nn+1) (xs++zEx) :=
  YW hown fun j hj=>heap_setCell_other _ _ _ _ (fun e=>hne (by have:some gg=some j:=hj;injection this with this;rw[this];exact e))
 have:=eJ hown' (nn*6) (.int .i64 k) (.string nm) (.int .i64 n) (.int .i64 d) (.slice none 0 0) (.int .i64 a)
 rw[zEx,ZcV hon.1] at this
 exact this
def XI (b o:Nat) (k:Int) (nm:ByteArray) (n d a:Int) (w':World):Prop:=w'.cell? ⟨b,o,none⟩=some (.int .i64 k)∧w'.cell? ⟨b,o+1,none⟩=some (.string nm)∧w'.cell? ⟨b,o+2,none⟩=some (.int .i64 n)∧w'.cell? ⟨b,o+3,none⟩=some (.int .i64 d)∧w'.cell? ⟨b,o+5,none⟩=some (.int .i64 a)
theorem XI.set {b o:Nat} {k:Int} {nm:ByteArray} {n d a:Int} {w':World} (h:XI b o k nm n d a w') {g j:Nat} (hg:¬b=g) (u:Value):XI b o k nm n d a (w'.setCell ⟨g,j,none⟩ u):=by
 have hc:∀o,(w'.setCell ⟨g,j,none⟩ u).cell? ⟨b,o,none⟩=w'.cell? ⟨b,o,none⟩:=fun o=>ZG _ _ _ _ (fun e=>hg e.symm)
 exact⟨(hc _).trans h.1,(hc _).trans h.2.1,(hc _).trans h.2.2.1,(hc _).trans h.2.2.2.1,(hc _).trans h.2.2.2.2⟩
theorem XI.drew {b o:Nat} {k:Int} {nm:ByteArray} {n d a:Int} {w':World} (h:XI b o k nm n d a w'):XI b o k nm n d a w'.drew:=h
theorem XI.alloc {b o:Nat} {k:Int} {nm:ByteArray} {n d a:Int} {w':World} (h:XI b o k nm n d a w') (ob:Obj):XI b o k nm n d a (w'.alloc ob):=by
 have hb:b<w'.heap.size:=World.block_lt_of_cell? w' ⟨b,o,none⟩ h.1
 have hc:∀o,(w'.alloc ob).cell? ⟨b,o,none⟩=w'.cell? ⟨b,o,none⟩:=fun o=>World.cell?_alloc_lt _ _ _ hb
 exact⟨(hc _).trans h.1,(hc _).trans h.2.1,(hc _).trans h.2.2.1,(hc _).trans h.2.2.2.1,(hc _).trans h.2.2.2.2⟩
theorem kZ {W1 w:World} {gb mb nn:Nat} {stk:List SE} (h:GW W1 gb mb nn stk w) {b o:Nat} {e:PE} (he:Jl W1 b o e) (hk:e.k=11) (hn:nn≤60000000000) :
  Calls Tryz.prog 180 #[.pointer (some ⟨gb,0,none⟩),.pointer (some ⟨b,o,none⟩)] w fun x w'=>x=.returned (.tuple #[])∧GW W1 gb mb (nn+1) stk w':=by
 obtain⟨vn,vo,xs,hgbb,hon,hnm,hoo⟩:=h.sta
 have HL:=hid h.low
 have HM:=hid h.map
 have hgb:=h.hgb
 have hmb:=h.hmb
 have HS:=hid h.stk
 have HON:=hid hon
 have HNM:=hid hnm
 have HOO:=hid hoo
 have HG:=hid hgbb
 obtain⟨⟨g0,g1,g2⟩,gf⟩:=XB hgbb
 obtain⟨k,nm,n,d,args,a⟩:=e
 obtain⟨hlt,hfz,c0,c1,c2,c3,c5,⟨ad,cap,c4,_⟩,_⟩:=he
 simp only at hk c0 c1 c2 c3 c5 c4
 subst hk
 have hc:=fun o=>h.low.cell (p:=⟨b,o,none⟩) hlt
 have d0:=(hc o).trans c0
 have d1:=(hc (o+1)).trans c1
 have d2:=(hc (o+2)).trans c2
 have d3:=(hc (o+3)).trans c3
 have d5:=(hc (o+5)).trans c5
 have hsz:=h.low.size
 have hgl:=Zb hgbb
 obtain⟨i0,hi0,hi1,hi2,hi3⟩:=J2 kJ
 have HI:=hid (Zh hi0 (Zh hi1 (Zh hi2 hi3)))
 obtain⟨ln,cn,hvn⟩:∃ad cn,vn=.slice ad nn cn:=by
  rcases hon.2 with ⟨h1,h2⟩|⟨g,cap,cur,h1,_⟩
  ·exact⟨none,0,by rw[h1,h2]⟩
  exact⟨_,cap,h1⟩
 subst hvn
 have HPF:=hid (fun(w4:World) (gg cap:Nat) hown hg hat=>kj (w4:=w4) (gg:=gg) (cap:=cap) (ob:=.cells #[.int .i64 0,.string ⟨#[]⟩,.int .i64 0,.int .i64 0,.slice none 0 0,.int .i64 0] 88) hgbb hon hlt hsz d0 d1 d2 d3 d5 hown hg hat)
 have HPC:=hid (fun(w4:World) (gg cap:Nat) hown hg hat hne=>uD (w4:=w4) (gg:=gg) (cap:=cap) (ob:=.cells #[.int .i64 0,.string ⟨#[]⟩,.int .i64 0,.int .i64 0,.slice none 0 0,.int .i64 0] 88) h hgbb hon hnm hown hg hat hne 11 nm n d a)
 clear h hi0 hi1 hi2 hi3 hc c0 c1 c2 c3 c4 c5 hon hnm hoo hgbb hfz
 have hnn0:(0:Int)≤(nn:Int):=oq
 have hnn1:(nn:Int)<(nn:Int)+1:=oq
 have HB:=hid (Zh hn (Zh hgl (Zh hlt hsz)))
 clear hn
 go_enter Tryz.func180,Tryz.ntmps180
 go_wp2
 have KA:=hid (show XI b o 11 nm n d a w from ⟨d0,d1,d2,d3,d5⟩)
 have hbgb:¬b=gb:=oq
 clear d0 d1 d2 d3 d5
 refine ZO (S:=fun w'=>w'.cell? ⟨b,o,none⟩=some (.int .i64 11)∧w'.cell? ⟨b,o+1,none⟩=some (.string nm)∧w'.cell? ⟨b,o+2,none⟩=some (.int .i64 n)∧w'.cell? ⟨b,o+3,none⟩=some (.int .i64 d)∧w'.cell? ⟨b,o+5,none⟩=some (.int .i64 a)) kq (by(show XI b o 11 nm n d a _;repeat (first|with_reducible exact KA.out|with_reducible exact KC.out|with_reducible refine XI.drew ?_|with_reducible refine XI.alloc ?_ _|(with_reducible refine XI.set ?_ hbn _)|(with_reducible refine XI.set ?_ hbgb _)))) (fun hHeld=>?_)
 refine tk 0 (by assumption) ?_
 refine tk 1 (by assumption) ?_
 refine tk 2 (by assumption) ?_
 refine tk 4 (by assumption) ?_
 refine tk 5 (by assumption) ?_
 refine tk 6 (by assumption) ?_
 refine tk 7 (by assumption) ?_
 refine tk 8 (by assumption) ?_
 refine tk 9 (by assumption) ?_
 refine tk 10 (by assumption) ?_
 refine tk 11 (by assumption) ?_
 refine tk 12 (by assumption) ?_
 refine tk 13 (by assumption) ?_
 refine tk 14 (by assumption) ?_
 refine tk 15 (by assumption) ?_
 refine tk 16 (by assumption) ?_
 refine tk 17 (by assumption) ?_
 refine tk 18 (by assumption) ?_
 refine tk 19 (by assumption) ?_
 refine tk 20 (by assumption) ?_
 refine tk 21 (by assumption) ?_
 refine tk 22 (by assumption) ?_
 refine tk 23 (by assumption) ?_
 refine tk 24 (by assumption) ?_
 refine rz 3 26 (fun K hK=>?_) fun K hK=>?_
 ·go_simp
  refine hK.out _ _ (fun hHeld=>?_) (by show XI b o 11 nm n d a _;exact sq)
  clear hK K
  refine tk 25 (by assumption) ?_
  refine ry 26 fun K hK=>?_
  go_simp
  refine hK.out _ _ (fun hHeld=>?_) (by show XI b o 11 nm n d a _;exact sq)
  clear hK K
  refine ry 27 fun K hK=>?_
  (refine step_append_lies _ (by rfl) _ _ _ (by rfl) W1.heap.size 88 i0 _ 6 72 Tryz.underlying86 HI.out.1 HI.out.2.1 HI.out.2.2.1 HI.out.2.2.2 rfl oq (.slice ln nn cn) nn xs (by rfl) (HON.out.drew.alloc _) ⟨w.heap.size,0,none⟩ 1 1 zEx (by rfl) (by rfl) (World.news_of_block (Zz w.drew _)) (by simp[Value.oneCell',zEx]) oq (by have:=HB.out.1;unfold maxLen;omega) (by have:=HB.out.1;omega) (by have:=HB.out.2.2.2;simp;omega) (w.heap.size+1) (by simp) ?_;intro gg cap w4 hown4 hgrow4 hat4 hlt4;have KP:=HPF.out w4 gg cap hown4 hgrow4 hat4;have HOWN4:=hid hown4;have HGROW4:=hid hgrow4;have HAT4:=hid hat4;clear hown4 hgrow4 hat4;have KC:=hid (show XI b o 11 nm n d a w4 from ⟨KP.c0,KP.c1,KP.c2,KP.c3,KP.c5⟩);obtain⟨f0,f1,f2,f3,f4,f5⟩:=KP.f;obtain⟨q0,q1,q2,q3,q4,q5⟩:=KP.q;have kgf:=KP.gf;have kg0:=KP.g0;obtain⟨hne,hgn,hbn⟩:=KP.ne;have HNE:=hid hne.1;clear hne KP)
  refine hK.out _ _ (fun hHeld=>?_) (by show XI b o 11 nm n d a _;exact sq)
  clear hK K
  refine tk 28 (by assumption) ?_
  refine tk 30 (by assumption) ?_
  refine tk 31 (by assumption) ?_
  refine rz 29 32 (fun K hK=>?_) fun K hK=>?_
  ·go_simp
   refine hK.out _ _ (fun hHeld=>?_) (by show XI b o 11 nm n d a _;exact sq)
   clear hK K
   refine ry 32 fun K hK=>?_
   go_simp
   refine hK.out _ _ (fun hHeld=>?_) (by show XI b o 11 nm n d a _;exact sq)
   clear hK K
   refine Zy kq ?_ _
   (go_wp2;refine Zl (v:=.tuple #[]) ?_ rfl ?_;(focus (simp[results,Tryz.results180]));exact⟨rfl,(HPC.out _ _ _ HOWN4.out HGROW4.out HAT4.out HNE.out).1⟩)
  go_simp
  refine hK.out _ _ (fun hHeld=>?_) (by show XI b o 11 nm n d a _;exact sq)
  clear hK K
  refine ry 29 fun K hK=>?_
  go_simp
  refine hK.out _ _ (fun hHeld=>?_) (by show XI b o 11 nm n d a _;exact sq)
  clear hK K
  refine Zy kq ?_ _
  (go_wp2;refine Zl (v:=.tuple #[]) ?_ rfl ?_;(focus (simp[results,Tryz.results180]));exact⟨rfl,(HPC.out _ _ _ HOWN4.out HGROW4.out HAT4.out HNE.out).2⟩)
 go_simp
 refine hK.out _ _ (fun hHeld=>?_) (by show XI b o 11 nm n d a _;exact sq)
 clear hK K
 refine ry 3 fun K hK=>?_
 go_simp
 refine hK.out _ _ (fun hHeld=>?_) (by show XI b o 11 nm n d a _;exact sq)
 clear hK K
 refine tk 25 (by assumption) ?_
 refine ry 27 fun K hK=>?_
 (refine step_append_lies _ (by rfl) _ _ _ (by rfl) W1.heap.size 88 i0 _ 6 72 Tryz.underlying86 HI.out.1 HI.out.2.1 HI.out.2.2.1 HI.out.2.2.2 rfl oq (.slice ln nn cn) nn xs (by rfl) (HON.out.drew.alloc _) ⟨w.heap.size,0,none⟩ 1 1 zEx (by rfl) (by rfl) (World.news_of_block (Zz w.drew _)) (by simp[Value.oneCell',zEx]) oq (by have:=HB.out.1;unfold maxLen;omega) (by have:=HB.out.1;omega) (by have:=HB.out.2.2.2;simp;omega) (w.heap.size+1) (by simp) ?_;intro gg cap w4 hown4 hgrow4 hat4 hlt4;have KP:=HPF.out w4 gg cap hown4 hgrow4 hat4;have HOWN4:=hid hown4;have HGROW4:=hid hgrow4;have HAT4:=hid hat4;clear hown4 hgrow4 hat4;have KC:=hid (show XI b o 11 nm n d a w4 from ⟨KP.c0,KP.c1,KP.c2,KP.c3,KP.c5⟩);obtain⟨f0,f1,f2,f3,f4,f5⟩:=KP.f;obtain⟨q0,q1,q2,q3,q4,q5⟩:=KP.q;have kgf:=KP.gf;have kg0:=KP.g0;obtain⟨hne,hgn,hbn⟩:=KP.ne;have HNE:=hid hne.1;clear hne KP)
 refine hK.out _ _ (fun hHeld=>?_) (by show XI b o 11 nm n d a _;exact sq)
 clear hK K
 refine tk 28 (by assumption) ?_
 refine tk 30 (by assumption) ?_
 refine tk 31 (by assumption) ?_
 refine rz 29 32 (fun K hK=>?_) fun K hK=>?_
 ·go_simp
  refine hK.out _ _ (fun hHeld=>?_) (by show XI b o 11 nm n d a _;exact sq)
  clear hK K
  refine ry 32 fun K hK=>?_
  go_simp
  refine hK.out _ _ (fun hHeld=>?_) (by show XI b o 11 nm n d a _;exact sq)
  clear hK K
  refine Zy kq ?_ _
  (go_wp2;refine Zl (v:=.tuple #[]) ?_ rfl ?_;(focus (simp[results,Tryz.results180]));exact⟨rfl,(HPC.out _ _ _ HOWN4.out HGROW4.out HAT4.out HNE.out).1⟩)
 go_simp
 refine hK.out _ _ (fun hHeld=>?_) (by show XI b o 11 nm n d a _;exact sq)
 clear hK K
 refine ry 29 fun K hK=>?_
 go_simp
 refine hK.out _ _ (fun hHeld=>?_) (by show XI b o 11 nm n d a _;exact sq)
 clear hK K
 refine Zy kq ?_ _
 (go_wp2;refine Zl (v:=.tuple #[]) ?_ rfl ?_;(focus (simp[results,Tryz.results180]));exact⟨rfl,(HPC.out _ _ _ HOWN4.out HGROW4.out HAT4.out HNE.out).2⟩)
end Go.Proofs.YtgigilkpndhddaaGreatDoor.syn
