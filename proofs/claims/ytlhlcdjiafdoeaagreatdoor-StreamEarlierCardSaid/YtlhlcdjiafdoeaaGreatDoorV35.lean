/- Parts of the proof. -/
import Derived.Test.YtlhlcdjiafdoeaaGreatDoorV25
import Derived.Test.YtlhlcdjiafdoeaaGreatDoorV34
set_option linter.all false
set_option maxRecDepth 100000
set_option maxHeartbeats 16000000
namespace Go.Proofs.YtlhlcdjiafdoeaaGreatDoor.syn
open Go.RowKit Go.Shelf
theorem flat_get {α:Type} {size:Nat}:∀(cs:List (List α)) (i j:Nat),(∀c∈cs,c.length=size)→∀h:i<cs.length,j<size→cs.flatten[i*size+j]?=cs[i][j]?
 | [],i,j,_,h,_=>absurd h (Yi _)
 | c::cs,0,j,hl,_,hj=>by
  have h1:c.length=size:=hl c (by simp)
  rw[List.flatten_cons,Nat.zero_mul,ZC,List.getElem?_append_left oq]
  rfl
 | c::cs,i+1,j,hl,h,hj=>by
  have h1:c.length=size:=hl c (by simp)
  have e:(i+1)*size+j=c.length+(i*size+j):=by rw[h1,Nat.succ_mul];omega
  rw[List.flatten_cons,e,List.getElem?_append_right oq,Nat.add_sub_cancel_left]
  rw[flat_get cs i j (fun c' hc=>hl c' (by simp[hc])) (by simpa using h) hj]
  rfl
theorem Y1.row {α β:Type} {Pe:World→List Value→α→Prop} {P:World→Nat→Nat→β→Prop} {e:TypeId} {size:Nat} {w:World} {base:Nat} {v:Value} {l:List α} (F:α→β) (h:Y1 Pe e size w base v l)
  (hP:∀(g o:Nat) (c:List Value) (x:α),g<w.heap.size→x∈l→c.length=size→Pe w c x→(∀j,j<size→w.cell? ⟨g,o+j,none⟩=c[j]?)→P w g o (F x)) :
  ∃ad cap,v=.slice ad l.length cap∧Row P size w (l.map F) ad:=by
 obtain⟨cs,h1,h2,h3,h4⟩:=h
 rcases h2.2 with ⟨rfl,h0⟩|⟨g,cap,cur,rfl,hbg,hg,hnc,hcm,hcs,htk⟩
 ·obtain rfl:l=[]:=Yb h0
  exact⟨none,0,rfl,.inl rfl⟩
 refine⟨_,_,rfl,?_⟩
 by_cases hl:l=[]
 ·exact .inl (by rw[hl];rfl)
 refine .inr ⟨g,0,rfl,Zb hg,fun i hi=>?_⟩
 have hi2:i<l.length:=by simpa using hi
 have hi3:i<cs.length:=oq
 rw[List.getElem_map]
 refine hP g _ cs[i] l[i] (Zb hg) (Zi hi2) (h3 _ (Zi hi3)) (h4 i hi2 hi3) (fun j hj=>?_)
 rw[←flat_get cs i j h3 hi3 hj,←htk,Yl (by
  have:(i+1)*size≤l.length*size:=Nat.mul_le_mul_right _ hi2
  rw[Nat.succ_mul] at this
  omega),Array.getElem?_toList,ZC]
 exact VW hg _
theorem Ee:∀l:List Op3,Qd l=(l.map opL).flatten
 | []=>rfl
 | o::l=>by
  rw[List.map_cons,List.flatten_cons,←Ee l]
  rfl
theorem jC {w:World} {base:Nat} {v:Value} {ops:List Op3} (h:w.ownsRow base 135 3 v ops.length (Qd ops)):∃ad cap,v=.slice ad ops.length cap∧Row OpR 3 w ops ad:=by
 have hm:Y1 (fun _ c (x:Op3)=>c=opL x) 135 3 w base v ops:=⟨ops.map opL,by simp,by rw[←Ee];exact h,fun c hc=>by obtain⟨x,_,rfl⟩:=Yc.1 hc;rfl,fun i hi hi'=>by rw[List.getElem_map]⟩
 have:=hm.row (P:=OpR) (fun x=>x) (fun g o c x hg hx hc hPe hcell=>by
  subst hPe
  exact⟨hcell 0 oq,hcell 1 oq,hcell 2 oq⟩)
 rwa [List.map_id'] at this
theorem eS {w:World} {base:Nat} {v:Value} {l:List (Int × Int)} (h:Y1 zr 50 2 w base v l):∃ad cap,v=.slice ad l.length cap∧Row eu 2 w l ad:=by
 have:=h.row (P:=eu) (fun x=>x) (fun g o c x hg hx hc hPe hcell=>by
  have hPe:c=[.int .i64 x.1,.int .i64 x.2]:=hPe
  subst hPe
  exact⟨hcell 0 oq,hcell 1 oq⟩)
 rwa [List.map_id'] at this
def gW (a:Nat × List Op3):AD:=⟨(a.1:Int),a.2⟩
def xj (t:TK):TD:=⟨t.node,t.per,t.ph,t.args.map gW⟩
def ZaJ (t:TL):LD:=⟨t.per,t.ph,⟨(t.src:Int),t.ops⟩,t.dl⟩
def ZbW (x:ND):NB:=⟨x.bud,x.ps.length⟩
theorem eI {w:World} {base:Nat} {v:Value} {l:List (Nat × List Op3)} (h:Y1 (Vn base) 75 2 w base v l):∃ad cap,v=.slice ad l.length cap∧Row xw 2 w (l.map gW) ad :=
 h.row (P:=xw) gW (fun g o c x hg hx hc hPe hcell=>by
  obtain⟨u,rfl,ho⟩:=hPe
  obtain⟨ad2,cap2,rfl,hr⟩:=jC ho
  exact⟨hcell 0 oq,ad2,cap2,hcell 1 oq,hr⟩)
theorem gU {w:World} {base:Nat} {v:Value} {l:List TK} (h:Y1 (Qw base) 53 4 w base v l):∃ad cap,v=.slice ad l.length cap∧Row uO 4 w (l.map xj) ad :=
 h.row (P:=uO) xj (fun g o c x hg hx hc hPe hcell=>by
  obtain⟨u,rfl,ho⟩:=hPe
  obtain⟨ad2,cap2,rfl,hr⟩:=eI ho
  exact⟨hcell 0 oq,hcell 1 oq,hcell 2 oq,ad2,cap2,by rw[show(xj x).args.length=x.args.length by simp[xj]];exact hcell 3 oq,hr⟩)
theorem gV {w:World} {base:Nat} {v:Value} {l:List TL} (h:Y1 (QH base) 77 5 w base v l):∃ad cap,v=.slice ad l.length cap∧Row eD 5 w (l.map ZaJ) ad :=
 h.row (P:=eD) ZaJ (fun g o c x hg hx hc hPe hcell=>by
  obtain⟨u,rfl,ho⟩:=hPe
  obtain⟨ad2,cap2,rfl,hr⟩:=jC ho
  exact⟨hcell 0 oq,hcell 1 oq,hcell 2 oq,hcell 4 oq,ad2,cap2,hcell 3 oq,hr⟩)
theorem kY {w:World} {base:Nat} {v:Value} {l:List ND} (h:Y1 Vp 94 10 w base v l):∃ad cap,v=.slice ad l.length cap∧Row NdR 10 w (l.map ZbW) ad :=
 h.row (P:=NdR) ZbW (fun g o c x hg hx hc hPe hcell=>by
  obtain⟨pa,pc,ad,cap,rfl,_⟩:=hPe
  exact⟨_,_,_,_,_,_,_,_,_,_,_,_,hcell 0 oq,hcell 1 oq,hcell 2 oq,hcell 3 oq,hcell 4 oq,hcell 5 oq,hcell 6 oq,hcell 7 oq,hcell 8 oq,hcell 9 oq⟩)
theorem Uq {flows:List FL} {nI:Nat} {xIx fIx iIx:IE}:∀(N:Nat) (e:PE) (way:ByteArray) (ops:List Op3) (r:Nat × List Op3),ops.length≤21→Xl flows nI xIx fIx iIx N e way ops=some r→r.2.length≤21
 | 0,e,way,ops,r,hl,h=>by cases h
 | N+1,e,way,ops,r,hl,h=>by
  unfold Xl at h
  split at h
  ·cases h;exact hl
  rename_i h20
  split at h
  ·cases h;exact hl
  split at h
  ·split at h
   ·exact Uq N _ _ _ r (by rw[Zw,Zp,Zv];omega) h
   cases h
  split at h
  ·split at h
   ·exact Uq N _ _ _ r hl h
   cases h
  cases h;exact hl
theorem Us {flows:List FL} {nI:Nat} {xIx fIx iIx:IE} (hx:∀k j,xIx k=some j→j≤1000) (hi:∀k j,iIx k=some j→j≤1000) (hn:nI≤1000):∀(N:Nat) (e:PE) (way:ByteArray) (ops:List Op3) (r:Nat × List Op3),Xl flows nI xIx fIx iIx N e way ops=some r→r.1≤2000
 | 0,e,way,ops,r,h=>by cases h
 | N+1,e,way,ops,r,h=>by
  unfold Xl at h
  split at h
  ·cases h;exact Zk _
  split at h
  ·cases h
   show nI+(xIx way).getD 0≤2000
   cases hq:xIx way with
   | none=>simp;omega
   | some j=>have:=hx _ _ hq;simp;omega
  split at h
  ·split at h
   ·exact Us hx hi hn N _ _ _ r h
   cases h
  split at h
  ·split at h
   ·exact Us hx hi hn N _ _ _ r h
   cases h
  cases h
  show(iIx e.nm).getD 0≤2000
  cases hq:iIx e.nm with
  | none=>simp
  | some j=>have:=hi _ _ hq;simp;omega
theorem gN:∀(l:PL) (way:ByteArray) (i:Nat),exR l=true→∀s∈Qf l way i,YF s.1=true∧s.1.args.sz+1≤l.sz:=by
 intro l
 induction l with
 | nil=>intro way i h s hs;simp[Qf] at hs
 | cons k nm n d args a tl ih1 ih2 =>
  intro way i h s hs
  have h0:=KE (.cons k nm n d args a tl) 0 ⟨k,nm,n,d,args,a⟩ h rfl
  have h1:exR args=true:=by
   have:=h0
   unfold YF at this
   rw[ZA] at this
   exact this.1
  have h2:exR tl=true:=by
   rw[exR,ZA] at h
   exact h.2
  simp only[Qf,ZQ,List.mem_append] at hs
  rw[show(PL.cons k nm n d args a tl).sz=args.sz+1+tl.sz from rfl]
  rcases hs with rfl|hs|hs
  ·exact⟨h0,by show args.sz+1≤_;omega⟩
  ·obtain⟨h3,h4⟩:=ih1 _ _ h1 s hs
   exact⟨h3,oq⟩
  obtain⟨h3,h4⟩:=ih2 _ _ h2 s hs
  exact⟨h3,oq⟩
theorem ui {e:PE} {way:ByteArray} (h:YF e=true):∀s∈Xg e way,YF s.1=true∧s.1.args.sz+1≤e.sz:=by
 intro s hs
 unfold Xg at hs
 rcases ZQ.1 hs with rfl|hs
 ·exact⟨h,Zc _⟩
 have h1:=h
 unfold YF at h1
 rw[ZA] at h1
 obtain⟨h3,h4⟩:=gN _ _ _ h1.1 s hs
 exact⟨h3,by unfold PE.sz;omega⟩
theorem Ut:∀(l:List FL) (i:Nat),(∀f∈l,f.e.sz≤100∧YF f.e=true)→∀s∈YL l i,YF s.1=true∧s.1.args.sz+1≤100∧s.1.k=2
 | [],i,h,s,hs=>by simp[YL] at hs
 | f::l,i,h,s,hs=>by
  unfold YL at hs
  rcases List.mem_append.1 hs with hs|hs
  ·obtain⟨h1,h2⟩:=List.mem_filter.1 hs
   obtain⟨h3,h4⟩:=ui (h f (by simp)).2 s h1
   have:=(h f (by simp)).1
   exact⟨h3,oq,by simpa [isC] using h2⟩
  exact Ut l (i+1) (fun f' hf=>h f' (by simp[hf])) s hs
theorem yh:∀(l:PL) (way:ByteArray) (i:Nat),exR l=true→∀k∈Qm l way i,YF k.1=true:=by
 intro l
 induction l with
 | nil=>intro way i h k hk;simp[Qm] at hk
 | cons k nm n d args a tl ih1 ih2 =>
  intro way i h s hs
  have h0:=KE (.cons k nm n d args a tl) 0 ⟨k,nm,n,d,args,a⟩ h rfl
  have h2:exR tl=true:=by
   rw[exR,ZA] at h
   exact h.2
  simp only[Qm,ZQ] at hs
  rcases hs with rfl|hs
  ·exact h0
  exact ih2 _ _ h2 s hs
noncomputable def vj (p:PG) (env:Env):FD :=
 ⟨p.ins.map (fun x=>(x.per,x.ph)),p.nodes.map ZbW,(YL p.flows 0).map (fun s=>xj (tkR p (xI p) (fI p) (iI p) (nI p) (ET p env) s)),p.outs.map (fun o=>ZaJ (tlR p (xI p) (fI p) (iI p) (ET p env) o))⟩
theorem jm {p:PG} (hE:∀e:PE,YF e=true→Y9 p.flows p.ins.length (xI p) (fI p) (iI p) e) (h30:(YL p.flows 0).length≤30) (hin:p.ins.length≤1000) {e:PE} (he:YF e=true) (way:ByteArray) :
  (Vh p (xI p) (fI p) (iI p) e way).2.length≤21∧(Vh p (xI p) (fI p) (iI p) e way).1≤2000:=by
 obtain⟨N,hN⟩:=Je (hE e he) way
 exact⟨Uq N _ _ _ _ (by simp) hN,Us (EY _ _ _ 1000 (by rw[Zo];omega) (fun k j h=>by cases h)) (EY _ _ _ 1000 (by rw[Zo];omega) (fun k j h=>by cases h)) hin N _ _ _ _ hN⟩
theorem Zab {p:PG} {env:Env} {base:Nat} {w:World} {v:Value} (h:Vo p env base w v) (hok:Jd p) (hE:∀e:PE,YF e=true→Y9 p.flows p.ins.length (xI p) (fI p) (iI p) e) (h30:(YL p.flows 0).length≤30)
  (hout:∀o∈p.outs,∃j,fI p o.fl=some j∧j<p.flows.length) :
  ∃ai an aT al ci cn ct cl,v=fv (vj p env) ai an aT al ci cn ct cl∧FAP w (vj p env) ai an aT al:=by
 obtain⟨vI,vN,vT,vL,rfl,r1,r2,r3,r4⟩:=h
 obtain⟨ai,ci,rfl,q1⟩:=eS r1
 obtain⟨an,cn,rfl,q2⟩:=kY r2
 obtain⟨aT,ct,rfl,q3⟩:=gU r3
 obtain⟨al,cl,rfl,q4⟩:=gV r4
 have hl:=hok.lens
 rw[List.map_map] at q3 q4
 refine⟨ai,an,aT,al,ci,cn,ct,cl,by unfold fv vj;simp only[Zo],q1,q2,q3,q4,by unfold vj;simp only[Zo];omega,?_,?_⟩
 ·intro t ht
  obtain⟨s,hs,rfl⟩:=Yc.1 ht
  obtain⟨h1,h2,_⟩:=Ut p.flows 0 hok.flows s hs
  have h3:=X5 s.1.args
  have h4:exR s.1.args=true:=by
   unfold YF at h1
   rw[ZA] at h1
   exact h1.1
  refine⟨by simp[xj,tkR,J5];omega,fun a ha=>?_⟩
  simp only[xj,tkR,List.map_map,Yc] at ha
  obtain⟨kd,hkd,rfl⟩:=ha
  obtain⟨g1,g2⟩:=jm hE h30 oq (yh _ _ _ h4 kd hkd) kd.2
  simp only[Function.comp,gW,List.length_reverse,I64]
  omega
 intro t ht
 obtain⟨o,ho,rfl⟩:=Yc.1 ht
 obtain⟨j,hj,hjl⟩:=hout o ho
 have hx:YF (flE p ((fI p o.fl).getD 0))=true:=by
  rw[hj]
  unfold flE
  rw[Z7,Ze hjl]
  exact(hok.flows _ (Zi hjl)).2
 obtain⟨g1,g2⟩:=jm hE h30 oq hx (dg ((fI p o.fl).getD 0))
 simp only[ZaJ,tlR,List.length_reverse,I64]
 omega
open Go.RowKit
theorem jx {n lo hi:Int} (h:inB n lo hi=true) (h1:-1000000000≤lo) (h2:hi≤1000000000):B64 n:=by
 unfold inB at h
 simp only[ZA,Yh] at h
 unfold B64
 omega
theorem ZaV {k n d:Int} {nm:ByteArray} {len:Nat} (h:bdE k n d nm len=true):B64 n:=by
 have h0:B64 0:=by unfold B64;omega
 unfold bdE at h
 split at h
 ·cases h
 split at h
 ·simp only[ZA,Yh] at h
  rw[h.2];exact h0
 split at h
 ·simp only[ZA] at h
  exact jx h.2 oq oq
 split at h
 ·cases h
 rename_i hk
 have:n=0:=by
  by_cases hn:n=0
  ·exact hn
  exact absurd (Or.inr hn) hk
 rw[this];exact h0
theorem EN:∀l:PL,bdR l=true→l.n64
 | .nil,_=>trivial
 | .cons k nm n d args a tl,h=>by
  rw[bdR,ZA,ZA] at h
  exact⟨ZaV h.1.2,EN args h.1.1,EN tl h.2⟩
theorem jZ {e:PE} (h:JG e=true):e.n64:=by
 unfold JG at h
 rw[ZA] at h
 exact⟨ZaV h.2,EN _ h.1⟩
theorem Zcz {k n d:Int} {nm:ByteArray} {len:Nat} (h:exE k n d nm len=true):B64 n:=by
 have h0:B64 0:=by unfold B64;omega
 unfold exE at h
 split at h
 ·simp only[ZA,Yh] at h
  rw[h.1.2];exact h0
 split at h
 ·simp only[ZA,Yh] at h
  rw[h.1.2];exact h0
 split at h
 ·cases h
 split at h
 ·exact jx h oq oq
 split at h
 ·simp only[ZA] at h
  exact jx h.1 oq oq
 split at h
 ·exact jx h oq oq
 simp only[ZA,Yh] at h
 rw[h.2];exact h0
theorem Ur {flows:List FL} {nI:Nat} {xIx fIx iIx:IE} (hf:∀f∈flows,YF f.e=true):∀(N:Nat) (e:PE) (way:ByteArray) (ops:List Op3) (r:Nat × List Op3),YF e=true→(∀o∈ops,B64 o.2.1)→Xl flows nI xIx fIx iIx N e way ops=some r→∀o∈r.2,B64 o.2.1
 | 0,e,way,ops,r,he,ho,h=>by cases h
 | N+1,e,way,ops,r,he,ho,h=>by
  have hen:B64 e.n∧exR e.args=true:=by
   unfold YF at he
   rw[ZA] at he
   exact⟨Zcz he.2,he.1⟩
  unfold Xl at h
  split at h
  ·cases h;exact ho
  split at h
  ·cases h;exact ho
  split at h
  ·split at h
   ·rename_i c hc
    refine Ur hf N _ _ _ r (KE _ _ _ hen.2 hc) (fun o h1=>?_) h
    rcases List.mem_append.1 h1 with h1|h1
    ·exact ho o h1
    rw[List.mem_singleton.1 h1];exact hen.1
   cases h
  split at h
  ·split at h
   ·rename_i f hfl
    exact Ur hf N _ _ _ r (hf f (Z8 hfl)) ho h
   cases h
  cases h;exact ho
theorem GQ:∀(l:List Op3) (n:Int) (e:Int × Int × Int),index.Xb l n=.error e→e.2.1=0∨∃o∈l,e.2.1=o.2.1
 | [],n,e,h=>by cases h
 | o::r,n,e,h=>by
  unfold index.Xb at h
  cases hs:index.Xj o n with
  | ok t =>
   rw[hs] at h
   rcases GQ r t e h with h|⟨o',h1,h2⟩
   ·exact .inl h
   exact .inr ⟨o',List.mem_cons_of_mem _ h1,h2⟩
  | error e' =>
   rw[hs] at h
   cases h
   unfold index.Xj at hs
   split at hs
   ·cases hs
    exact .inr ⟨o,by simp,rfl⟩
   split at hs
   ·cases hs
   cases hs
   exact .inl rfl
theorem jW (l:List Op3) (h:∀o∈l,B64 o.2.1) (n:Int):B64 (index.XT l n).2.1:=by
 have h0:B64 0:=by unfold B64;omega
 unfold index.XT
 split
 ·exact h0
 cases hb:index.Xb l.reverse n with
 | ok m=>exact h0
 | error e =>
  rcases GQ _ _ _ hb with h1|⟨o,h1,h2⟩
  ·show B64 e.2.1
   rw[h1];exact h0
  show B64 e.2.1
  rw[h2];exact h o (List.mem_reverse.1 h1)
def ZbX (x:ND):NE:=⟨x.bud,x.ps,x.body⟩
theorem Zac {w:World} {base:Nat} {v:Value} {l:List ND} (h:Y1 Vp 94 10 w base v l):∃ad cap,v=.slice ad l.length cap∧Row NdE 10 w (l.map ZbX) ad :=
 h.row (P:=NdE) ZbX (fun g o c x hg hx hc hPe hcell=>by
  obtain⟨pa,pc,ad,cap,rfl,hps,hcap,hsl⟩:=hPe
  refine⟨x.nm,pa,pc,ad,cap,x.a,hcell 0 oq,hcell 1 oq,hcell 2 oq,hcell 3 oq,hcell 4 oq,hcell 5 oq,hcell 6 oq,hcell 7 oq,hcell 8 oq,hcell 9 oq,?_,hcap,hsl⟩
  rcases hps.2 with ⟨_,hn⟩|⟨g2,cap2,cur,e,hb,hg2,_⟩
  ·exact .inl (Yb hn)
  injection e with e1 e2 e3
  subst e1
  exact .inr ⟨g2,0,rfl,Zb hg2,fun i y hy=>by
   rw[ZC]
   exact(World.ownsRow.cellAt hps i (by rw[Z6];exact(Zz.1 hy).1)).trans (by rw[List.getElem?_map,show x.ps[i]?=some y from hy];rfl)⟩)
theorem ZcD {p:PG} {base:Nat} {x:Ending} {w':World} (h:jd p base x w'):ZaR x w':=by
 rcases h with h|⟨v,env,hx,hmk,hr,hN,hC,h30,hfew⟩
 ·exact .inl h
 have hok:=hr.ok
 have hE:=ES hok hN hC
 have hout:∀o∈p.outs,∃j,fI p o.fl=some j∧j<p.flows.length:=fun o ho=>by
  obtain⟨i,hi,hoi⟩:=Yj ho
  have:=hN.outs i hi
  rw[hoi] at this
  exact kr this
 obtain⟨ai,an,aT,al,ci,cn,ct,cl,hv,hf⟩:=Zab hmk hok hE h30 hout
 obtain⟨vI,vN,vT,vL,hv2,_,r2,_,_⟩:=hmk
 obtain⟨ad,cap,hvN,hrow⟩:=Zac r2
 have had:ad=an:=by
  rw[hv2] at hv
  unfold fv at hv
  injection hv with hv
  have h1:=Z1 (fun a:Array Value=>a[1]?) hv
  rw[hvN] at h1
  simp at h1
  exact h1.1
 subst had
 refine .inr ⟨vj p env,p.nodes.map ZbX,ai,ad,aT,al,ci,cn,ct,cl,by rw[hx,hv],hf,hrow,by simp[vj],fun n hn=>?_,fun t ht a ha n=>?_⟩
 ·obtain⟨y,hy,rfl⟩:=Yc.1 hn
  have h1:=hr.nodes y hy
  have h2:=(hok.nodes y hy).2
  exact⟨by show y.ps.length≤1000;omega,by show y.body.sz≤1000;omega,jZ h1.2.2.2.2⟩
 obtain⟨s,hs,rfl⟩:=Yc.1 ht
 obtain⟨h1,h2,_⟩:=Ut p.flows 0 hok.flows s hs
 have h4:exR s.1.args=true:=by
  unfold YF at h1
  rw[ZA] at h1
  exact h1.1
 simp only[xj,tkR,List.map_map,Yc] at ha
 obtain⟨kd,hkd,rfl⟩:=ha
 refine jW _ (fun o ho=>?_) n
 have he:=yh _ _ _ h4 kd hkd
 obtain⟨N,hN2⟩:=Je (hE kd.1 he) kd.2
 refine Ur (fun f hf=>(hok.flows f hf).2) N _ _ _ _ he (fun o h=>by cases h) hN2 o ?_
 simpa [Function.comp,gW] using ho
end Go.Proofs.YtlhlcdjiafdoeaaGreatDoor.syn
