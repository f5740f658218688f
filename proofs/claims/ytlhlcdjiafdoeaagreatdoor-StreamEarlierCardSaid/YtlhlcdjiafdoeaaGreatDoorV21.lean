/- Parts of the proof. -/
import Derived.Test.YtlhlcdjiafdoeaaGreatDoorV19
set_option linter.all false
set_option maxRecDepth 100000
set_option maxHeartbeats 16000000
namespace Go.Proofs.YtlhlcdjiafdoeaaGreatDoor.syn
open Go.RowKit Go.Shelf
theorem jk {W:World}:∀(l:PL) (b o:Nat),AC W l b o→∃news:List Value,news.length=l.len*6∧(∀j,j<l.len*6→news[j]?=W.cell? ⟨b,o+j,none⟩∧(W.cell? ⟨b,o+j,none⟩).isSome)∧∀u∈news,u.oneCell'=true
 | .nil,b,o,_=>⟨[],by simp[PL.len],fun j h=>by simp[PL.len] at h,by simp⟩
 | .cons k nm n d args a tl,b,o,h=>by
  obtain⟨h0,h1,h2,h3,h5,hn,⟨ad,cap,h4,_⟩,ht⟩:=h
  obtain⟨news,hl,hj,h1c⟩:=jk tl b (o+6) ht
  refine⟨.int .i64 k::.string nm::.int .i64 n::.int .i64 d::.slice ad args.len cap::.int .i64 a::news,by simp only[Zp,hl,PL.len];omega,?_,?_⟩
  ·intro j hlt
   match j,hlt with
   | 0,_=>exact⟨h0.symm,by rw[Nat.add_zero,h0];rfl⟩
   | 1,_=>exact⟨h1.symm,by rw[h1];rfl⟩
   | 2,_=>exact⟨h2.symm,by rw[h2];rfl⟩
   | 3,_=>exact⟨h3.symm,by rw[h3];rfl⟩
   | 4,_=>exact⟨h4.symm,by rw[h4];rfl⟩
   | 5,_=>exact⟨h5.symm,by rw[h5];rfl⟩
   | j+6,hlt =>
    have:=hj j (by simp only[PL.len] at hlt;omega)
    rw[show o+6+j=o+(j+6) by omega] at this
    exact this
  intro u hu
  simp only[ZQ] at hu
  rcases hu with rfl|rfl|rfl|rfl|rfl|rfl|hu
  ·rfl
  ·rfl
  ·rfl
  ·rfl
  ·rfl
  ·rfl
  exact h1c u hu
theorem zV:(Tryz.prog.info? 92).map (fun i=>(i.zero,i.size,i.bytes))=some (some (.agg #[.int .i64 0,.string ⟨#[]⟩,.int .i64 0,.int .i64 0,.slice none 0 0,.int .i64 0]),6,72):=by kernel_rfl
theorem ZcJ (w w3:World) (e:TypeId) (size:Nat) (h:w.heap.size≤w3.heap.size):(w3.alloc (.cells #[] e)).ownsRow w.heap.size e size (.slice (some ⟨w3.heap.size,0,none⟩) 0 0) 0 [] :=
 ⟨by simp,.inr ⟨w3.heap.size,0,#[],rfl,h,Yt w3 _,Zc _,by unfold maxLen;omega,by simp,by simp⟩⟩
theorem ZaW (ad:Option Addr) (n cap:Nat) (w:World):(binOp BinOp.eql 90 (.slice ad n cap) (.slice none 0 0)).run Tryz.prog w=.ok (.bool ad.isNone) w:=by cases ad<;>kernel_rfl
def ClE (W0:World) (b o n base:Nat) (v:Value) (w':World):Prop:=∃ad' cap',v=.slice ad' n cap'∧n≤cap'∧(0<n→∃g cur,ad'=some ⟨g,0,none⟩∧base≤g∧w'.heap[g]?=some (.cells cur 92 (0,0))∧∀j,j<n*6→cur[j]?=W0.cell? ⟨b,o+j,none⟩)
theorem xT {W0 w:World} (l:PL) (ad:Option Addr) (cap:Nat) (h:AS W0 l ad) (hl:l.len≤1000) (hB:Below W0.heap.size W0 w) :
  Calls Tryz.prog 120 #[.slice ad l.len cap] w fun x w'=>(∃b o v,x=.returned v∧(0<l.len→ad=some ⟨b,o,none⟩)∧ClE W0 b o l.len w.heap.size v w')∧Below w.heap.size w w':=by
 obtain⟨i0,hi0,hi1,hi2,hi3⟩:=info_parts zV
 cases ad with
 | none =>
  have hl0:l.len=0:=by
   rcases h with rfl|⟨b,o,h,_⟩
   ·rfl
   cases h
  rw[hl0]
  have hnil:=fun w=>ZaW none 0 cap w
  simp only[Option.isNone] at hnil
  go_enter Tryz.func120,Tryz.ntmps120
  go_wp2
  go_ret
  exact⟨⟨0,0,_,rfl,fun h=>absurd h oq,none,0,rfl,Zc _,fun h=>absurd h oq⟩,bq⟩
 | some adr =>
  obtain⟨b,o,news,hadr,hnl,hnj,hn1⟩:∃b o,∃news:List Value,(0<l.len→adr=⟨b,o,none⟩∧b<W0.heap.size)∧news.length=l.len*6∧(∀j,j<l.len*6→news[j]?=W0.cell? ⟨b,o+j,none⟩∧(W0.cell? ⟨b,o+j,none⟩).isSome)∧∀u∈news,u.oneCell'=true:=by
   rcases h with rfl|⟨b,o,h,hb,hac⟩
   ·exact⟨0,0,[],fun h=>absurd h (by simp[PL.len]),by simp[PL.len],fun j h=>by simp[PL.len] at h,by simp⟩
   obtain⟨news,h1,h2,h3⟩:=jk l b o hac
   exact⟨b,o,news,fun _=>⟨Option.some.inj h,hb⟩,h1,h2,h3⟩
  have hnew:∀(w':World),Below W0.heap.size W0 w'→∀j u,news[j]?=some u→∃x:Addr,some adr=some x∧w'.cell? (x.add j)=some u:=by
   intro w' hw' j u hju
   have hj:j<l.len*6:=by rw[←hnl];exact(Zz.1 hju).1
   obtain⟨rfl,hb⟩:=hadr oq
   refine⟨_,rfl,?_⟩
   rw[show(⟨b,o,none⟩:Addr).add j=⟨b,o+j,none⟩ from by unfold Addr.add;split<;>simp_all]
   rw[hw'.cell (p:=⟨b,o+j,none⟩) hb,←(hnj j hj).1,hju]
  have hnil:=fun w=>ZaW (some adr) l.len cap w
  simp only[Option.isNone] at hnil
  go_enter Tryz.func120,Tryz.ntmps120
  go_wp2_with (refine lite.Xd _ (by rfl) _ _ _ (by rfl) w.heap.size 92 i0 _ 6 72 Tryz.underlying90 hi0 hi1 hi2 hi3 rfl oq (.slice (some ⟨w.heap.size,0,none⟩) 0 0) 0 [] (by rfl) (ZcJ w w _ _ (Zc _)) (some adr) l.len cap news (by rfl) hnl (hnew _ ((hB.alloc (by have:=hB.size;omega) _))) hn1 (by unfold maxLen;omega) oq (by simp) ?_;intro v1 w4 hown4 hg4 hl4)
  go_ret
  have hb4:Below w.heap.size w w4:=Below.grown ((Zg w.heap.size w).alloc (Zc _) (.cells #[] 92)) hg4 (by simp) (fun k e=>by simp[Value.ownBlock] at e;omega)
  refine⟨⟨b,o,v1,rfl,fun h=>by rw[(hadr h).1],?_⟩,hb4⟩
  rw[ZC,ZL] at hown4
  rcases hown4.2 with ⟨rfl,h0⟩|⟨g,cap1,cur,rfl,hbg,hg,hnc,hcm,hcs,htk⟩
  ·exact⟨none,0,by rw[h0],oq,fun h=>oq⟩
  refine⟨_,cap1,rfl,hnc,fun h=>⟨g,cur,rfl,hbg,hg,fun j hj=>?_⟩⟩
  rw[←(hnj j hj).1,←htk,Yl hj,Array.getElem?_toList]
theorem ZcP {cur:Array Value} {p:Nat} (hs:p+6≤cur.size) (v0 v1 v2 v3 v4 v5:Value) :
  ∃c':Array Value,c'=(((((cur.setIfInBounds p v0).setIfInBounds (p+1) v1).setIfInBounds (p+2) v2).setIfInBounds (p+3) v3).setIfInBounds (p+4) v4).setIfInBounds (p+5) v5 ∧
   (c'[p]?=some v0∧c'[p+1]?=some v1∧c'[p+2]?=some v2∧c'[p+3]?=some v3∧c'[p+4]?=some v4∧c'[p+5]?=some v5)∧∀j,j<p∨p+6≤j→c'[j]?=cur[j]?:=by
 have self:∀(c:Array Value) (i:Nat) (v:Value),i<c.size→(c.setIfInBounds i v)[i]?=some v:=fun c i v h=>by simp[Array.getElem?_setIfInBounds,h]
 have ne:∀(c:Array Value) (i j:Nat) (v:Value),i≠j→(c.setIfInBounds i v)[j]?=c[j]?:=fun c i j v h=>Array.getElem?_setIfInBounds_ne h
 refine⟨_,rfl,⟨?_,?_,?_,?_,?_,?_⟩,fun j hj=>?_⟩
 ·rw[ne _ _ _ _ oq,ne _ _ _ _ oq,ne _ _ _ _ oq,ne _ _ _ _ oq,ne _ _ _ _ oq]
  exact self _ _ _ oq
 ·rw[ne _ _ _ _ oq,ne _ _ _ _ oq,ne _ _ _ _ oq,ne _ _ _ _ oq]
  exact self _ _ _ (by simp only[Array.size_setIfInBounds];omega)
 ·rw[ne _ _ _ _ oq,ne _ _ _ _ oq,ne _ _ _ _ oq]
  exact self _ _ _ (by simp only[Array.size_setIfInBounds];omega)
 ·rw[ne _ _ _ _ oq,ne _ _ _ _ oq]
  exact self _ _ _ (by simp only[Array.size_setIfInBounds];omega)
 ·rw[ne _ _ _ _ oq]
  exact self _ _ _ (by simp only[Array.size_setIfInBounds];omega)
 ·exact self _ _ _ (by simp only[Array.size_setIfInBounds];omega)
 rw[ne _ _ _ _ oq,ne _ _ _ _ oq,ne _ _ _ _ oq,ne _ _ _ _ oq,ne _ _ _ _ oq,ne _ _ _ _ oq]
theorem ZcQ {w:World} {g p:Nat} {cur:Array Value} {t:TypeId} (h:w.heap[g]?=some (.cells cur t (0,0))) (hs:p+6≤cur.size) (v0 v1 v2 v3 v4 v5:Value) :
  (∃cur':Array Value,((((((w.setCell ⟨g,p,none⟩ v0).setCell ⟨g,p+1,none⟩ v1).setCell ⟨g,p+2,none⟩ v2).setCell ⟨g,p+3,none⟩ v3).setCell ⟨g,p+4,none⟩ v4).setCell ⟨g,p+5,none⟩ v5).heap[g]?=some (.cells cur' t (0,0))∧(cur'[p]?=some v0∧cur'[p+1]?=some v1∧cur'[p+2]?=some v2∧cur'[p+3]?=some v3∧cur'[p+4]?=some v4∧cur'[p+5]?=some v5)∧∀j,j<p∨p+6≤j→cur'[j]?=cur[j]?) ∧
   Upon g w ((((((w.setCell ⟨g,p,none⟩ v0).setCell ⟨g,p+1,none⟩ v1).setCell ⟨g,p+2,none⟩ v2).setCell ⟨g,p+3,none⟩ v3).setCell ⟨g,p+4,none⟩ v4).setCell ⟨g,p+5,none⟩ v5):=by
 have h0:=Zj _ g p _ t v0 h
 have h1:=Zj _ g (p+1) _ t v1 h0
 have h2:=Zj _ g (p+2) _ t v2 h1
 have h3:=Zj _ g (p+3) _ t v3 h2
 have h4:=Zj _ g (p+4) _ t v4 h3
 have h5:=Zj _ g (p+5) _ t v5 h4
 obtain⟨c',rfl,h6,h7⟩:=ZcP hs v0 v1 v2 v3 v4 v5
 exact⟨⟨_,h5,h6,h7⟩,((((((Upon.refl g w).setAt (Or.inl rfl) _).setAt (Or.inl rfl) _).setAt (Or.inl rfl) _).setAt (Or.inl rfl) _).setAt (Or.inl rfl) _).setAt (Or.inl rfl) _⟩
def ElC (w:World) (P:Nat→Prop) (b p:Nat) (c:PE):Prop:=w.cell? ⟨b,p,none⟩=some (.int .i64 c.k)∧w.cell? ⟨b,p+1,none⟩=some (.string c.nm)∧w.cell? ⟨b,p+2,none⟩=some (.int .i64 c.n)∧w.cell? ⟨b,p+3,none⟩=some (.int .i64 c.d)∧w.cell? ⟨b,p+5,none⟩=some (.int .i64 c.a) ∧
 ∃ad cap,w.cell? ⟨b,p+4,none⟩=some (.slice ad c.args.len cap)∧c.args.len≤cap∧SlA w P c.args ad
theorem zJ {w:World} {P:Nat→Prop} {b:Nat}:∀(l:PL) (o:Nat),(∀j c,l.at j=some c→ElC w P b (o+j*6) c)→X1 w P b l o
 | .nil,o,_=>trivial
 | .cons k nm n d args a tl,o,h=>by
  obtain⟨h0,h1,h2,h3,h5,ad,cap,h4,hc,hs⟩:=h 0 ⟨k,nm,n,d,args,a⟩ rfl
  rw[Nat.zero_mul,Nat.add_zero] at h0 h1 h2 h3 h4 h5
  refine⟨h0,h1,h2,h3,h5,⟨ad,cap,h4,hc,hs⟩,zJ tl (o+6) (fun j c hj=>?_)⟩
  have:=h (j+1) c hj
  rwa [show o+(j+1)*6=o+6+j*6 by omega] at this
def GU (e:PE) (ad:Option Addr) (cap:Nat):Obj:=.cells #[.int .i64 e.k,.string e.nm,.int .i64 e.n,.int .i64 e.d,.slice ad e.args.len cap,.int .i64 e.a] 92 (0,0)
theorem J4 {w:World} {b:Nat} {v0 v1 v2 v3 v4 v5:Value} {t:TypeId} (h:w.heap[b]?=some (.cells #[v0,v1,v2,v3,v4,v5] t (0,0))) :
  (w.cell? ⟨b,0,none⟩=some v0∧w.cell? ⟨b,1,none⟩=some v1∧w.cell? ⟨b,2,none⟩=some v2∧w.cell? ⟨b,3,none⟩=some v3∧w.cell? ⟨b,4,none⟩=some v4∧w.cell? ⟨b,5,none⟩=some v5)∧∀o,w.frozen? ⟨b,o,none⟩=false:=by
 refine⟨⟨?_,?_,?_,?_,?_,?_⟩,?_⟩
 all_goals first|(intro o;simp[World.frozen?,h])|simp[World.cell?,h]
theorem VW {w:World} {g:Nat} {cur:Array Value} {t:TypeId} (h:w.heap[g]?=some (.cells cur t (0,0))) (j:Nat):w.cell? ⟨g,j,none⟩=cur[j]?:=Z5 w g j cur t (0,0) h
structure xz (W0 w:World) (e:PE) (b o:Nat) (ad':Option Addr) (cap' i:Nat) (wr:World):Prop where
 le:i≤e.args.len
 b0:wr.heap[w.heap.size]?=some (GU e ad' cap')
 b1:wr.heap[w.heap.size+1]?=some (.cells #[.int .i64 0,.string ⟨#[]⟩,.int .i64 0,.int .i64 0,.slice none 0 0,.int .i64 0] 92 (0,0))
 row:0<e.args.len→∃g cur,ad'=some ⟨g,0,none⟩∧w.heap.size+2≤g∧wr.heap[g]?=some (.cells cur 92 (0,0))∧(∀j,i*6≤j→j<e.args.len*6→cur[j]?=W0.cell? ⟨b,o+j,none⟩)∧∀j c,j<i→e.args.at j=some c→ElC wr (fun k=>w.heap.size+2≤k∧k≠g) g (j*6) c
 low:Below w.heap.size w wr
theorem xz.next {W0 w:World} {e:PE} {b o g cap' i:Nat} {wr w6:World} (h:xz W0 w e b o (some ⟨g,0,none⟩) cap' i wr) (hb:Below wr.heap.size wr w6) (hlt:i<e.args.len) {c:PE} (hc:e.args.at i=some c) (hcs:(W0.cell? ⟨b,o+(i*6+5),none⟩).isSome) {ad6:Option Addr} {cap6:Nat} (hcap:c.args.len≤cap6) (hsl:SlA w6 (fun k=>wr.heap.size≤k) c.args ad6) :
  xz W0 w e b o (some ⟨g,0,none⟩) cap' (i+1) ((((((w6.setCell ⟨g,i*6,none⟩ (.int .i64 c.k)).setCell ⟨g,i*6+1,none⟩ (.string c.nm)).setCell ⟨g,i*6+2,none⟩ (.int .i64 c.n)).setCell ⟨g,i*6+3,none⟩ (.int .i64 c.d)).setCell ⟨g,i*6+4,none⟩ (.slice ad6 c.args.len cap6)).setCell ⟨g,i*6+5,none⟩ (.int .i64 c.a)):=by
 obtain⟨g',cur,hg',hg2,hgb,hcur,hdone⟩:=h.row oq
 injection hg' with hg'
 injection hg' with hg'
 subst hg'
 have hlg:=Zb hgb
 have hsz:i*6+6≤cur.size:=by
  have h1:=hcur (i*6+5) oq oq
  rw[←h1] at hcs
  obtain⟨x,hx⟩:=Option.isSome_iff_exists.1 hcs
  have:=(Zq.1 hx).1
  omega
 obtain⟨⟨cur',h1,⟨k0,k1,k2,k3,k4,k5⟩,h2⟩,hu⟩:=ZcQ (p:=i*6) ((hb.block g hlg).trans hgb) hsz (.int .i64 c.k) (.string c.nm) (.int .i64 c.n) (.int .i64 c.d) (.slice ad6 c.args.len cap6) (.int .i64 c.a)
 have hs:=hb.size
 obtain⟨W,hW⟩:∃W,((((((w6.setCell ⟨g,i*6,none⟩ (.int .i64 c.k)).setCell ⟨g,i*6+1,none⟩ (.string c.nm)).setCell ⟨g,i*6+2,none⟩ (.int .i64 c.n)).setCell ⟨g,i*6+3,none⟩ (.int .i64 c.d)).setCell ⟨g,i*6+4,none⟩ (.slice ad6 c.args.len cap6)).setCell ⟨g,i*6+5,none⟩ (.int .i64 c.a))=W:=⟨_,rfl⟩
 rw[hW] at h1 hu ⊢
 have hkeep:Same (fun k=>w.heap.size+2≤k∧k≠g) wr W:=Same.upon (fun h=>h.2 rfl) hu (Same.of_below hb (Same.refl _ _))
 refine⟨oq,(hu.block _ oq oq).trans ((hb.block _ oq).trans h.b0),(hu.block _ oq oq).trans ((hb.block _ oq).trans h.b1),fun _=>⟨g,cur',rfl,hg2,h1,fun j hj hj2=>?_,fun j c' hj hc'=>?_⟩,(h.low.trans (hb.mono h.low.size)).trans (hu.below (by have:=h.low.size;omega) oq)⟩
 ·rw[h2 j oq]
  exact hcur j oq hj2
 have hcl:=fun r=>VW h1 r
 by_cases hji:j=i
 ·subst hji
  rw[hc] at hc'
  injection hc' with hc'
  subst hc'
  refine⟨(hcl _).trans k0,(hcl _).trans k1,(hcl _).trans k2,(hcl _).trans k3,(hcl _).trans k5,ad6,cap6,(hcl _).trans k4,hcap,?_⟩
  exact(hsl.mono (Q:=fun k=>w.heap.size+2≤k∧k≠g) (fun k hk _=>oq)).keep (Same.upon (fun h=>h.2 rfl) hu (Same.refl _ _))
 obtain⟨d0,d1,d2,d3,d5,ad,cap,d4,dc,ds⟩:=hdone j c' oq hc'
 have hold:∀r,r<6→W.cell? ⟨g,j*6+r,none⟩=wr.cell? ⟨g,j*6+r,none⟩:=fun r hr=>by
  rw[hcl,h2 _ oq,VW hgb]
 exact⟨(hold 0 oq).trans d0,(hold 1 oq).trans d1,(hold 2 oq).trans d2,(hold 3 oq).trans d3,(hold 5 oq).trans d5,ad,cap,(hold 4 oq).trans d4,dc,ds.keep hkeep⟩
theorem xz.all {W0 w:World} {e:PE} {b o cap':Nat} {ad':Option Addr} {wr:World} (h:xz W0 w e b o ad' cap' e.args.len wr):SlA wr (fun k=>w.heap.size+2≤k) e.args ad':=by
 by_cases h0:e.args.len=0
 ·refine .inl ?_
  cases hl:e.args with
  | nil=>rfl
  | cons=>rw[hl] at h0;simp[PL.len] at h0
 obtain⟨g,cur,hg',hg2,hgb,_,hdone⟩:=h.row oq
 refine .inr ⟨g,0,hg',⟨hg2,cur,hgb⟩,zJ _ _ (fun j c hj=>?_)⟩
 rw[ZC]
 obtain⟨d0,d1,d2,d3,d5,ad,cap,d4,dc,ds⟩:=hdone j c (UJ _ _ _ hj).1 hj
 exact⟨d0,d1,d2,d3,d5,ad,cap,d4,dc,ds.mono (fun k hk _=>hk.1)⟩
theorem xW {W0:World}:∀(M:Nat) (e:PE),e.args.sz<M→e.args.sz≤900→∀(w:World) (ad:Option Addr) (cap:Nat),AE W0 e ad cap→Below W0.heap.size W0 w →
  Calls Tryz.prog 83 #[ev e ad cap] w fun x w'=>(∃ad' cap',x=.returned (ev e ad' cap')∧e.args.len≤cap'∧SlA w' (fun k=>w.heap.size≤k) e.args ad')∧Below w.heap.size w w':=by
 intro M
 induction M with
 | zero=>intro e h;omega
 | succ M ih =>
  intro e hM hsz w ad cap hae hB
  have hlen:=X5 e.args
  have HCL:=hid (fun(w':World) (hb:Below W0.heap.size W0 w')=>xT (w:=w') e.args ad cap hae.args oq hb)
  have HIH:=hid ih
  have HAE:=hid hae
  have HB:=hid hB
  have hw0:=hB.size
  have hlc:=hae.len
  clear ih hae hB
  unfold ev
  go_enter Tryz.func83,Tryz.ntmps83
  go_wp2_with (go_at_call 120;refine(HCL.out _ (HB.out.trans ((bq:Below w.heap.size w _).mono hw0))).mono ?_;rintro x w1 ⟨⟨b,o,v,rfl,had,ad',cap',rfl,hcap,hrow⟩,hb1⟩;have hy0:w1.heap[w.heap.size]?=some (GU e ad cap):=(hb1.block _ (by simp;omega)).trans ((Za _ _ _ (by simp)).trans (Yt w _));have hy1:w1.heap[w.heap.size+1]?=some (.cells #[.int .i64 0,.string ⟨#[]⟩,.int .i64 0,.int .i64 0,.slice none 0 0,.int .i64 0] 92 (0,0)):=(hb1.block _ (by simp)).trans (by simpa using Yt (w.alloc _) _);obtain⟨⟨x0,x1,x2,x3,x4,x5⟩,xf⟩:=J4 hy0)
  have hz1:w.heap.size+2≤w1.heap.size:=by have:=hb1.size;simpa using this
  have hb1':Below w.heap.size w w1:=bq
  obtain⟨W1,hW1⟩:∃W1,w1.setCell ⟨w.heap.size,4,none⟩ (.slice ad' e.args.len cap')=W1:=⟨_,rfl⟩
  have HC1:=hid (show xz W0 w e b o ad' cap' 0 W1 from by
   rw[←hW1]
   have hk:∀k,k≠w.heap.size→(w1.setCell ⟨w.heap.size,4,none⟩ (.slice ad' e.args.len cap')).heap[k]?=w1.heap[k]?:=fun k hk=>Zr _ _ _ _ hk
   refine⟨Zk _,?_,(hk _ oq).trans hy1,fun h=>?_,hb1'.setCell (p:=⟨w.heap.size,4,none⟩) (Zc _) _⟩
   ·unfold GU
    have:=Zj _ w.heap.size 4 _ _ (.slice ad' e.args.len cap') hy0
    simpa only [sA,sB,sC] using this
   obtain⟨g,cur,h1,h2,h3,h4⟩:=hrow h
   have hg:w.heap.size+2≤g:=by simpa using h2
   exact⟨g,cur,h1,hg,(hk g oq).trans h3,fun j _ hj=>h4 j hj,fun j c hj=>absurd hj (Yi _)⟩)
  have HAD:=hid had
  have HCAP:=hid hcap
  rw[hW1]
  clear hW1 hy0 hy1 x0 x1 x2 x3 x4 x5 xf hz1 hb1' hb1 hrow had
  go_loopw [12] (fun v wr=>Hid (∃i:Nat,v=.int .i64 (i:Int)∧xz W0 w e b o ad' cap' i wr)) (fun i _=>e.args.len-(intOf i).toNat)
  case atStart=>exact⟨0,rfl,HC1.out⟩
  obtain⟨i,rfl,hC⟩:=hrel.out
  clear hrel HC1
  have HC:=hid hC
  obtain⟨⟨x0,x1,x2,x3,x4,x5⟩,xf⟩:=J4 hC.b0
  have hwr:=hC.low.size
  clear hC
  by_cases hlt:i<e.args.len
  ·have hil:(i:Int)<(e.args.len:Int):=oq
   obtain⟨g,cur,rfl,hg,hgb,hcur,_⟩:=HC.out.row oq
   have had:=HAD.out oq
   subst had
   obtain⟨c,hc,_⟩:=PL.at_some _ _ hlt
   obtain⟨b',o',hbo,hb0,hac⟩:∃b' o',some (⟨b,o,none⟩:Addr)=some ⟨b',o',none⟩∧b'<W0.heap.size∧AC W0 e.args b' o':=by
    rcases HAE.out.args with h0|h0
    ·rw[h0] at hlt;simp[PL.len] at hlt
    exact h0
   injection hbo with hbo
   injection hbo with hbo1 hbo2
   subst hbo1;subst hbo2
   obtain⟨ad2,cap2,y0,y1,y2,y3,y4,y5,hae2⟩:=jj _ hac i c hc
   have hcl:∀r,r<6→wr.cell? ⟨g,i*6+r,none⟩=W0.cell? ⟨b,o+i*6+r,none⟩:=fun r hr=>by
    rw[VW hgb,hcur _ oq oq,Nat.add_assoc]
   have e0:=(hcl 0 oq).trans y0
   have e1:=(hcl 1 oq).trans y1
   have e2:=(hcl 2 oq).trans y2
   have e3:=(hcl 3 oq).trans y3
   have e4:=(hcl 4 oq).trans y4
   have e5:=(hcl 5 oq).trans y5
   rw[Nat.add_zero] at e0
   have hszc:=(UJ _ _ _ hc).2
   have HCC:=hid (fun(w':World) (hb:Below W0.heap.size W0 w')=>HIH.out c oq oq w' ad2 cap2 hae2 hb)
   unfold ev at HCC
   have hgn:¬g=w.heap.size:=oq
   have hgn1:¬g=w.heap.size+1:=oq
   have hlg:=Zb hgb
   have HCI:=hid hc
   have HCS:=hid (show(W0.cell? ⟨b,o+(i*6+5),none⟩).isSome from by rw[←Nat.add_assoc,y5];rfl)
   have HGB:=hid hgb
   have HCU:=hid hcur
   clear hgb hcur hac hc hcl y0 y1 y2 y3 y4 y5 hae2
   go_wp2
   obtain⟨W5,hW5⟩:∃W5,wr.alloc (GU c ad2 cap2)=W5:=⟨_,rfl⟩
   have hB5:Below wr.heap.size wr W5:=by rw[←hW5];exact bq
   have hbx:W5.heap[wr.heap.size]?=some (GU c ad2 cap2):=by rw[←hW5];exact Yt wr _
   have hs5:wr.heap.size<W5.heap.size:=Zb hbx
   change Code.wp _ _ _ _ (wr.alloc (GU c ad2 cap2))
   rw[hW5]
   have hE5:=(hB5.block _ oq).trans HC.out.b0
   have HE0:=hid e0
   have HE1:=hid e1
   have HE2:=hid e2
   have HE3:=hid e3
   have HE4:=hid e4
   have HE5:=hid e5
   clear x0 x1 x2 x3 x4 x5 xf e0 e1 e2 e3 e4 e5 hW5
   obtain⟨⟨x0,x1,x2,x3,x4,x5⟩,xf⟩:=J4 hE5
   obtain⟨⟨z0,z1,z2,z3,z4,z5⟩,zf⟩:=J4 hbx
   have HB5:=hid hB5
   have HLW:=hid (show Below W0.heap.size W0 W5 from HB.out.trans ((HC.out.low.trans (hB5.mono hwr)).mono hw0))
   clear hB5 hbx hE5
   have hl1:w.heap.size<W5.heap.size:=oq
   have hl2:g<W5.heap.size:=oq
   have hi64:(0:Int)≤(i:Int):=oq
   go_region_law (go_simp;first|(go_at_call 83;refine(HCC.out _ HLW.out.drew).mono ?_;rintro x w6 ⟨⟨ad6,cap6,rfl,hcap6,hsl6⟩,hb6⟩;have HSL6:=hid (Zh hcap6 (hsl6.mono (Q:=fun k=>wr.heap.size≤k) (fun k hk _=>Zm (show wr.heap.size≤W5.heap.size by omega) hk)));clear hcap6 hsl6;have hb6':Below wr.heap.size wr w6:=HB5.out.drew.trans (hb6.mono (by show wr.heap.size≤W5.heap.size;omega));have hE6:=(hb6'.block _ oq).trans HC.out.b0;obtain⟨⟨r0,r1,r2,r3,r4,r5⟩,rf⟩:=J4 hE6;have hg6:=(hb6'.block g hlg).trans HGB.out;have s0:=(hb6'.cell (p:=⟨g,i*6,none⟩) hlg).trans HE0.out;have s1:=(hb6'.cell (p:=⟨g,i*6+1,none⟩) hlg).trans HE1.out;have s2:=(hb6'.cell (p:=⟨g,i*6+2,none⟩) hlg).trans HE2.out;have s3:=(hb6'.cell (p:=⟨g,i*6+3,none⟩) hlg).trans HE3.out;have s4:=(hb6'.cell (p:=⟨g,i*6+4,none⟩) hlg).trans HE4.out;have s5:=(hb6'.cell (p:=⟨g,i*6+5,none⟩) hlg).trans HE5.out;have hgf:∀r,w6.frozen? ⟨g,r,none⟩=false:=(fun r=>by simp[World.frozen?,hg6]);have HB6:=hid hb6';clear hb6 hb6' hE6 hg6))
   all_goals
    go_wp2
    have hX:=HC.out.next HB6.out hlt HCI.out HCS.out HSL6.out.1 HSL6.out.2
    exact⟨hid ⟨i+1,by go_num,hX⟩,by simp[intOf];omega⟩
  have hle:=HC.out.le
  obtain⟨⟨q0,q1,q2,q3,q4,q5⟩,qf⟩:=J4 HC.out.b1
  go_wp2
  have hie:i=e.args.len:=oq
  subst hie
  refine Zl (v:=ev e ad' cap') ?_ rfl ⟨⟨ad',cap',rfl,HCAP.out,?_⟩,?_⟩
  ·simp only[results,Tryz.results83,ev];go_simp
  ·refine SlA.mono (SlA.keep HC.out.all ?_) (fun k hk _=>Zm (ZV _ 2) hk)
   exact(((((Same.refl _ _).setCell (by show ¬_≤_;omega) _).setCell (by show ¬_≤_;omega) _).setCell (by show ¬_≤_;omega) _).setCell (by show ¬_≤_;omega) _).setCell (by show ¬_≤_;omega) _ |>.setCell (by show ¬_≤_;omega) _
  exact(((((HC.out.low.setCell (p:=⟨w.heap.size+1,0,none⟩) (ZV _ 1) _).setCell (p:=⟨w.heap.size+1,1,none⟩) (ZV _ 1) _).setCell (p:=⟨w.heap.size+1,2,none⟩) (ZV _ 1) _).setCell (p:=⟨w.heap.size+1,3,none⟩) (ZV _ 1) _).setCell (p:=⟨w.heap.size+1,4,none⟩) (ZV _ 1) _).setCell (p:=⟨w.heap.size+1,5,none⟩) (ZV _ 1) _
def YO (e:TypeId) (w w':World):Prop:=∀(k:Nat) (cur:Array Value) (t:TypeId) (fz:Nat × Nat),w.heap[k]?=some (Obj.cells cur t fz)→t≠e→w'.heap[k]?=some (Obj.cells cur t fz)
theorem YO.trans {e:TypeId} {a b c:World} (h:YO e a b) (k:YO e b c):YO e a c:=fun i cur t fz hi ht=>k i cur t fz (h i cur t fz hi ht) ht
theorem YO.of_below {e:TypeId} {a b:World} (h:Below a.heap.size a b):YO e a b:=fun i cur t fz hi _=>(h.block i (Zb hi)).trans hi
theorem YO.of_grown {e:TypeId} {a b:World} {base size n:Nat} {v:Value} {xs:List Value} (ho:a.ownsRow base e size v n xs) (hg:a.grownBy b v.ownBlock):YO e a b:=by
 intro i cur t fz hi ht
 refine(hg.block i (Zb hi) (fun he=>?_)).trans hi
 rcases ho.2 with ⟨rfl,_⟩|⟨g,cap,cur',rfl,hb,hgg,_⟩
 ·cases he
 simp[Value.ownBlock] at he
 subst he
 rw[hi] at hgg
 injection hgg with hgg
 injection hgg with h1 h2 h3
 exact ht h2
theorem YO.set {e:TypeId} (w:World) (b o:Nat) {cur:Array Value} {fz:Nat × Nat} (h:w.heap[b]?=some (.cells cur e fz)) (u:Value):YO e w (w.setCell ⟨b,o,none⟩ u):=by
 intro i cur' t fz' hi ht
 refine(Zr _ _ _ _ (fun he=>?_)).trans hi
 have he:i=b:=he
 subst he
 rw[h] at hi
 injection hi with hi
 injection hi with h1 h2 h3
 exact ht h2.symm
theorem Jl {w w':World} {base:Nat} {e e':TypeId} {size n:Nat} {v:Value} {xs:List Value} (h:w.ownsRow base e size v n xs) (hs:YO e' w w') (hne:e≠e'):w'.ownsRow base e size v n xs:=by
 refine⟨h.1,?_⟩
 rcases h.2 with h0|⟨g,cap,cur,hv,hb,hg,rest⟩
 ·exact .inl h0
 exact .inr ⟨g,cap,cur,hv,hb,hs g cur e _ hg hne,rest⟩
theorem Zar (w:World) (base:Nat) (e:TypeId) (size:Nat):w.ownsRow base e size (.slice none 0 0) 0 []:=Yd _ _ _ _
def Y1 {α:Type} (Pe:World→List Value→α→Prop) (e:TypeId) (size:Nat) (w:World) (base:Nat) (v:Value) (l:List α):Prop :=
 ∃cs:List (List Value),cs.length=l.length∧w.ownsRow base e size v l.length cs.flatten∧(∀c∈cs,c.length=size)∧∀i (h:i<l.length) (h':i<cs.length),Pe w cs[i] l[i]
section
variable {α:Type} {Pe:World→List Value→α→Prop} {e:TypeId} {size:Nat} {w w':World} {base:Nat} {v:Value} {l:List α}
theorem Y1.nil:Y1 Pe e size w base (.slice none 0 0) ([]:List α):=⟨[],rfl,Zar _ _ _ _,by simp,fun i h=>by simp at h⟩
theorem Y1.own (h:Y1 Pe e size w base v l):∃xs,w.ownsRow base e size v l.length xs:=by
 obtain⟨cs,_,h1,_⟩:=h
 exact⟨_,h1⟩
theorem Y1.form (h:Y1 Pe e size w base v l):∃ad cap,v=.slice ad l.length cap:=by
 obtain⟨xs,h1⟩:=h.own
 exact YD h1
theorem Y1.stays (h:Y1 Pe e size w base v l) {e':TypeId} (hs:YO e' w w') (hne:e≠e') (hP:∀c x,Pe w c x→Pe w' c x):Y1 Pe e size w' base v l:=by
 obtain⟨cs,h1,h2,h3,h4⟩:=h
 exact⟨cs,h1,Jl h2 hs hne,h3,fun i hi hi'=>hP _ _ (h4 i hi hi')⟩
theorem Y1.below (h:Y1 Pe e size w base v l) (hb:Below w.heap.size w w') (hP:∀c x,Pe w c x→Pe w' c x):Y1 Pe e size w' base v l:=by
 obtain⟨cs,h1,h2,h3,h4⟩:=h
 exact⟨cs,h1,own_below h2 hb,h3,fun i hi hi'=>hP _ _ (h4 i hi hi')⟩
theorem EW (cs:List (List Value)) (c:List Value):(cs++[c]).flatten=cs.flatten++c:=by simp
theorem Y1.snoc {cs:List (List Value)} (h1:cs.length=l.length) (h3:∀c∈cs,c.length=size) (h4:∀i (h:i<l.length) (h':i<cs.length),Pe w' cs[i] l[i]) {c:List Value} (hc:c.length=size) {x:α} (hx:Pe w' c x) {v':Value}
  (hown:w'.ownsRow base e size v' (l.length+1) (cs.flatten++c)):Y1 Pe e size w' base v' (l++[x]):=by
 refine⟨cs++[c],by simp[h1],by rw[EW,Zw];exact hown,fun d hd=>?_,fun i hi hi'=>?_⟩
 ·rcases List.mem_append.1 hd with h|h
  ·exact h3 d h
  rw[List.mem_singleton.1 h];exact hc
 by_cases hl:i<l.length
 ·rw[List.getElem_append_left hl,List.getElem_append_left oq]
  exact h4 i hl oq
 have hi2:i=l.length:=by simp at hi;omega
 subst hi2
 rw[List.getElem_append_right (Zc _),List.getElem_append_right oq]
 simp only[h1,Nat.sub_self,List.getElem_cons_zero]
 exact hx
theorem VQ {wr w3 w4:World} {n:Nat} {xs:List Value} {ob:Obj} (hown:wr.ownsRow base e size v n xs) (hb:Below wr.heap.size wr w3) (hg:(w3.alloc ob).grownBy w4 v.ownBlock):YO e wr w4∧(∀B,B≤base→B≤wr.heap.size→Below B wr w4)∧wr.heap.size≤w4.heap.size:=by
 have h3:Below wr.heap.size wr (w3.alloc ob):=hb.alloc hb.size _
 refine⟨(YO.of_below h3).trans (YO.of_grown (own_below hown h3) hg),fun B hB hB2=>?_,Zm h3.size hg.size⟩
 exact(h3.mono hB2).grown hg (Zm hB2 h3.size) (fun k ek=>Zm hB (YW hown k ek))
theorem QR {wr w4:World} {cs:List (List Value)} (h1:cs.length=l.length) (h2:wr.ownsRow base e size v l.length cs.flatten) (h3:∀c∈cs,c.length=size) (h4:∀i (h:i<l.length) (h':i<cs.length),Pe wr cs[i] l[i]) (hP:∀c x,Pe wr c x→Pe w4 c x)
  {c:List Value} (hc:c.length=size) {x:α} (hx:Pe w4 c x) {v':Value} (hown4:w4.ownsRow base e size v' (l.length+1) (cs.flatten++c)):Y1 Pe e size w4 base v' (l++[x]) :=
 Y1.snoc h1 h3 (fun i hi hi'=>hP _ _ (h4 i hi hi')) hc hx hown4
end
def Vn (base:Nat) (w:World) (c:List Value) (x:Nat × List Op3):Prop:=∃v,c=[.int .i64 (x.1:Int),v]∧w.ownsRow base 135 3 v x.2.length (Qd x.2)
def zr (w:World) (c:List Value) (x:Int × Int):Prop:=c=[.int .i64 x.1,.int .i64 x.2]
structure TK where
 node:Int
 per:Int
 ph:Int
 args:List (Nat × List Op3)
def Qw (base:Nat) (w:World) (c:List Value) (x:TK):Prop:=∃v,c=[.int .i64 x.node,.int .i64 x.per,.int .i64 x.ph,v]∧Y1 (Vn base) 75 2 w base v x.args
structure TL where
 per:Int
 ph:Int
 src:Nat
 ops:List Op3
 dl:Int
def QH (base:Nat) (w:World) (c:List Value) (x:TL):Prop:=∃v,c=[.int .i64 x.per,.int .i64 x.ph,.int .i64 (x.src:Int),v,.int .i64 x.dl]∧w.ownsRow base 135 3 v x.ops.length (Qd x.ops)
theorem X1.stays {P:Nat→Prop} {w w':World} {e':TypeId} (hs:YO e' w w') (hne:92≠e'):∀(l:PL) (b o:Nat),OkB w P b→X1 w P b l o→X1 w' P b l o:=by
 intro l
 induction l with
 | nil=>intro b o _ _;trivial
 | cons k nm n d args a tl ih1 ih2 =>
  intro b o hb h
  have hb0:=hb
  obtain⟨_,cs,hcs⟩:=hb
  have hc:∀o,w'.cell? ⟨b,o,none⟩=w.cell? ⟨b,o,none⟩:=fun o=>Zn (w:=w) (a:=⟨b,o,none⟩) ((hs b cs _ _ hcs hne).trans hcs.symm)
  obtain⟨h0,h1,h2,h3,h5,⟨ad,cap,h4,hcap,hd⟩,ht⟩:=h
  refine⟨(hc _).trans h0,(hc _).trans h1,(hc _).trans h2,(hc _).trans h3,(hc _).trans h5,⟨ad,cap,(hc _).trans h4,hcap,?_⟩,ih2 b _ hb0 ht⟩
  rcases hd with hd|⟨b',o',e,hb',hd⟩
  ·exact .inl hd
  obtain⟨hp,cs',hcs'⟩:=hb'
  exact .inr ⟨b',o',e,⟨hp,cs',hs b' cs' _ _ hcs' hne⟩,ih1 b' o' ⟨hp,cs',hcs'⟩ hd⟩
theorem SlA.stays {P:Nat→Prop} {w w':World} {e':TypeId} {args:PL} {ad:Option Addr} (h:SlA w P args ad) (hs:YO e' w w') (hne:92≠e'):SlA w' P args ad:=by
 rcases h with h|⟨b,o,e,⟨hp,cs,hcs⟩,h⟩
 ·exact .inl h
 exact .inr ⟨b,o,e,⟨hp,cs,hs b cs _ _ hcs hne⟩,h.stays hs hne _ _ _ ⟨hp,cs,hcs⟩⟩
def Vp (w:World) (c:List Value) (x:ND):Prop:=∃pa pc ad cap,c=[.string x.nm,.slice pa x.ps.length pc,.int .i64 x.bud,.int .i64 x.body.k,.string x.body.nm,.int .i64 x.body.n,.int .i64 x.body.d,.slice ad x.body.args.len cap,.int .i64 x.body.a,.int .i64 x.a] ∧
 w.ownsRow 0 9 1 (.slice pa x.ps.length pc) x.ps.length (x.ps.map Value.string)∧x.body.args.len≤cap∧SlA w (fun _=>True) x.body.args ad
theorem Vp.stays {w w':World} {e':TypeId} {c:List Value} {x:ND} (h:Vp w c x) (hs:YO e' w w') (h1:9≠e') (h2:92≠e'):Vp w' c x:=by
 obtain⟨pa,pc,ad,cap,hc,ho,hl,ha⟩:=h
 exact⟨pa,pc,ad,cap,hc,Jl ho hs h1,hl,ha.stays hs h2⟩
theorem Vp.below {w w':World} {c:List Value} {x:ND} (h:Vp w c x) (hb:Below w.heap.size w w'):Vp w' c x:=by
 obtain⟨pa,pc,ad,cap,hc,ho,hl,ha⟩:=h
 exact⟨pa,pc,ad,cap,hc,own_below ho hb,hl,ha.keep (Same.of_below hb (Same.refl _ _))⟩
section
variable {base:Nat} {w w':World} {e':TypeId}
theorem Vn.stays {c:List Value} {x:Nat × List Op3} (h:Vn base w c x) (hs:YO e' w w') (hne:135≠e'):Vn base w' c x:=by
 obtain⟨v,h1,h2⟩:=h
 exact⟨v,h1,Jl h2 hs hne⟩
theorem Qw.stays {c:List Value} {x:TK} (h:Qw base w c x) (hs:YO e' w w') (hne:135≠e') (hne2:75≠e'):Qw base w' c x:=by
 obtain⟨v,h1,h2⟩:=h
 exact⟨v,h1,h2.stays hs hne2 (fun c x h=>h.stays hs hne)⟩
theorem QH.stays {c:List Value} {x:TL} (h:QH base w c x) (hs:YO e' w w') (hne:135≠e'):QH base w' c x:=by
 obtain⟨v,h1,h2⟩:=h
 exact⟨v,h1,Jl h2 hs hne⟩
theorem Vn.below {c:List Value} {x:Nat × List Op3} (h:Vn base w c x) (hb:Below w.heap.size w w'):Vn base w' c x:=by
 obtain⟨v,h1,h2⟩:=h
 exact⟨v,h1,own_below h2 hb⟩
theorem Qw.below {c:List Value} {x:TK} (h:Qw base w c x) (hb:Below w.heap.size w w'):Qw base w' c x:=by
 obtain⟨v,h1,h2⟩:=h
 exact⟨v,h1,h2.below hb (fun c x h=>h.below hb)⟩
theorem QH.below {c:List Value} {x:TL} (h:QH base w c x) (hb:Below w.heap.size w w'):QH base w' c x:=by
 obtain⟨v,h1,h2⟩:=h
 exact⟨v,h1,own_below h2 hb⟩
theorem Y1.mono {α:Type} {Pe Pe':World→List Value→α→Prop} {e:TypeId} {size:Nat} {base base':Nat} {v:Value} {l:List α} (h:Y1 Pe e size w base v l) (hb:base'≤base) (hP:∀c x,Pe w c x→Pe' w c x):Y1 Pe' e size w base' v l:=by
 obtain⟨cs,h1,h2,h3,h4⟩:=h
 exact⟨cs,h1,Y6 h2 hb,h3,fun i hi hi'=>hP _ _ (h4 i hi hi')⟩
theorem Vn.mono {base':Nat} {c:List Value} {x:Nat × List Op3} (h:Vn base w c x) (hb:base'≤base):Vn base' w c x:=by
 obtain⟨v,h1,h2⟩:=h
 exact⟨v,h1,Y6 h2 hb⟩
theorem Qw.mono {base':Nat} {c:List Value} {x:TK} (h:Qw base w c x) (hb:base'≤base):Qw base' w c x:=by
 obtain⟨v,h1,h2⟩:=h
 exact⟨v,h1,h2.mono hb (fun c x h=>h.mono hb)⟩
end
theorem qs:(Tryz.prog.info? 75).map (fun i=>(i.zero,i.size,i.bytes))=some (some (.agg #[.int .i64 0,.slice none 0 0]),2,32):=by kernel_rfl
theorem zX:(Tryz.prog.info? 53).map (fun i=>(i.zero,i.size,i.bytes))=some (some (.agg #[.int .i64 0,.int .i64 0,.int .i64 0,.slice none 0 0]),4,48):=by kernel_rfl
theorem zY:(Tryz.prog.info? 77).map (fun i=>(i.zero,i.size,i.bytes))=some (some (.agg #[.int .i64 0,.int .i64 0,.int .i64 0,.slice none 0 0,.int .i64 0]),5,56):=by kernel_rfl
theorem qt:(Tryz.prog.info? 50).map (fun i=>(i.zero,i.size,i.bytes))=some (some (.agg #[.int .i64 0,.int .i64 0]),2,16):=by kernel_rfl
theorem zW:(Tryz.prog.info? 94).map (fun i=>(i.zero,i.size,i.bytes))=some (some (.agg #[.string ⟨#[]⟩,.slice none 0 0,.int .i64 0,.int .i64 0,.string ⟨#[]⟩,.int .i64 0,.int .i64 0,.slice none 0 0,.int .i64 0,.int .i64 0]),10,128):=by kernel_rfl
end Go.Proofs.YtlhlcdjiafdoeaaGreatDoor.syn
