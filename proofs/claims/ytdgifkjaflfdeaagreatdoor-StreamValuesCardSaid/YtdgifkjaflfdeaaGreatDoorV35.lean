/- Parts of the proof. -/
import Derived.Test.YtdgifkjaflfdeaaGreatDoorV25
import Derived.Test.YtdgifkjaflfdeaaGreatDoorV34
set_option linter.all false
set_option maxRecDepth 100000
set_option maxHeartbeats 16000000
namespace Go.Proofs.YtdgifkjaflfdeaaGreatDoor.syn
open Tryz
open Go.RowKit Go.Shelf
theorem flat_get{α:Type}{size:Nat}:∀(f:List (List α))(i j:Nat),(∀c∈f,c.length=size)→∀h:i<f.length,j<size→f.flatten[i*size+j]?=f[i][j]?
 | [],i,j,_,h,_=>absurd h (Yj _)
 | c::f,0,j,hl,_,hj=>by
  have h1:c.length=size:=hl c (by simp);rw[List.flatten_cons,Nat.zero_mul,ZC,List.getElem?_append_left oq];rfl
 | c::f,i+1,j,hl,h,hj=>by
  have h1:c.length=size:=hl c (by simp);have e:(i+1)*size+j=c.length+(i*size+j):=by rw[h1,Nat.succ_mul];omega
  rw[List.flatten_cons,e,List.getElem?_append_right oq,Nat.add_sub_cancel_left];rw[flat_get f i j (fun c' hc=>hl c' (by simp[hc])) (by simpa using h) hj];rfl
theorem Xk.row{α β:Type}{Pe:World→List Value→α→Prop}{P:World→Nat→Nat→β→Prop}{e:TypeId}{size:Nat}{w:World}{base:Nat}{v:Value}{l:List α}(F:α→β)(h:Xk Pe e size w base v l)
  (C:∀(g o:Nat)(c:List Value)(x:α),g<w.heap.size→x∈l→c.length=size→Pe w c x→(∀j,j<size→w.cell? ⟨g,o+j,none⟩=c[j]?)→P w g o (F x)) :
  ∃ad cap,v=.slice ad l.length cap∧Row P size w (l.map F) ad:=by
 obtain⟨q,E,z,y,A⟩:=h;rcases z.2 with ⟨rfl,h0⟩|⟨g,cap,cur,rfl,hbg,hg,hnc,hcm,hcs,htk⟩
 ·obtain rfl:l=[]:=Yb h0;exact⟨none,0,rfl,.inl rfl⟩
 refine⟨_,_,rfl,?_⟩;by_cases D:l=[]
 ·exact .inl (by rw[D];rfl)
 refine .inr ⟨g,0,rfl,Zb hg,fun i hi=>?_⟩;have f:i<l.length:=by simpa using hi
 have m:i<q.length:=oq;rw[List.getElem_map];refine C g _ q[i] l[i] (Zb hg) (Zi f) (y _ (Zi m)) (A i f m) (fun j hj=>?_);rw[←flat_get q i j y m hj,←htk,Ym (by
  have:(i+1)*size≤l.length*size:=Nat.mul_le_mul_right _ f;rw[Nat.succ_mul] at this;omega),Array.getElem?_toList,ZC]
 exact UN hg _
theorem zQ:∀l:List Op3,QA l=(l.map opL).flatten
 | []=>rfl
 | o::l=>by
  rw[List.map_cons,List.flatten_cons,←zQ l];rfl
theorem gL{w:World}{base:Nat}{v:Value}{f:List Op3}(h:w.ownsRow base 183 3 v f.length (QA f)):∃ad cap,v=.slice ad f.length cap∧Row OpR 3 w f ad:=by
 have j:Xk (fun _ c (x:Op3)=>c=opL x) 183 3 w base v f:=⟨f.map opL,by simp,by rw[←zQ];exact h,fun c hc=>by obtain⟨x,_,rfl⟩:=Yc.1 hc;rfl,fun i hi hi'=>by rw[List.getElem_map]⟩;have:=j.row (P:=OpR) (fun x=>x) (fun g o c x hg hx hc hPe hcell=>by
  subst hPe;exact⟨hcell 0 oq,hcell 1 oq,hcell 2 oq⟩)
 rwa [List.map_id'] at this
theorem ZdO{w:World}{base:Nat}{v:Value}{l:List (Int × Int)}(h:Xk xC 50 2 w base v l):∃ad cap,v=.slice ad l.length cap∧Row Zdl 2 w l ad:=by
 have:=h.row (P:=Zdl) (fun x=>x) (fun g o c x hg hx hc f hcell=>by
  have f:c=[.int .i64 x.1,.int .i64 x.2]:=f;subst f;exact⟨hcell 0 oq,hcell 1 oq⟩)
 rwa [List.map_id'] at this
def Zc7(a:Nat × List Op3):AD:=⟨(a.1:Int),a.2⟩
def Gs(t:TK):TD:=⟨t.node,t.per,t.ph,t.args.map Zc7⟩
def Zc8(t:TL):LD:=⟨t.per,t.ph,⟨(t.src:Int),t.ops⟩,t.dl⟩
def ZaW(x:ND):NB:=⟨x.bud,x.ps.length⟩
theorem ZdA{w:World}{base:Nat}{v:Value}{l:List (Nat × List Op3)}(h:Xk (Uf base) 92 2 w base v l):∃ad cap,v=.slice ad l.length cap∧Row vd 2 w (l.map Zc7) ad :=
 h.row (P:=vd) Zc7 (fun g o c x hg hx hc hPe hcell=>by
  obtain⟨u,rfl,ho⟩:=hPe;obtain⟨ad2,cap2,rfl,hr⟩:=gL ho;exact⟨hcell 0 oq,ad2,cap2,hcell 1 oq,hr⟩)
theorem Zc4{w:World}{base:Nat}{v:Value}{l:List TK}(h:Xk (QS base) 53 4 w base v l):∃ad cap,v=.slice ad l.length cap∧Row Zbj 4 w (l.map Gs) ad :=
 h.row (P:=Zbj) Gs (fun g o c x hg hx hc hPe hcell=>by
  obtain⟨u,rfl,ho⟩:=hPe;obtain⟨ad2,cap2,rfl,hr⟩:=ZdA ho;exact⟨hcell 0 oq,hcell 1 oq,hcell 2 oq,ad2,cap2,by rw[show(Gs x).args.length=x.args.length by simp[Gs]];exact hcell 3 oq,hr⟩)
theorem Zc6{w:World}{base:Nat}{v:Value}{l:List TL}(h:Xk (Q6 base) 94 5 w base v l):∃ad cap,v=.slice ad l.length cap∧Row Zds 5 w (l.map Zc8) ad :=
 h.row (P:=Zds) Zc8 (fun g o c x hg hx hc hPe hcell=>by
  obtain⟨u,rfl,ho⟩:=hPe;obtain⟨ad2,cap2,rfl,hr⟩:=gL ho;exact⟨hcell 0 oq,hcell 1 oq,hcell 2 oq,hcell 4 oq,ad2,cap2,hcell 3 oq,hr⟩)
theorem Zcr{w:World}{base:Nat}{v:Value}{l:List ND}(h:Xk Ui 113 10 w base v l):∃ad cap,v=.slice ad l.length cap∧Row NdR 10 w (l.map ZaW) ad :=
 h.row (P:=NdR) ZaW (fun g o c x hg hx hc hPe hcell=>by
  obtain⟨pa,pc,ad,cap,rfl,_⟩:=hPe;exact⟨_,_,_,_,_,_,_,_,_,_,_,_,hcell 0 oq,hcell 1 oq,hcell 2 oq,hcell 3 oq,hcell 4 oq,hcell 5 oq,hcell 6 oq,hcell 7 oq,hcell 8 oq,hcell 9 oq⟩)
theorem Ki{flows:List FL}{nI:Nat}{xIx fIx iIx:IE}:∀(N:Nat)(e:PE)(way:ByteArray)(ops:List Op3)(r:Nat × List Op3),ops.length≤21→Xr flows nI xIx fIx iIx N e way ops=some r→r.2.length≤21
 | 0,e,way,ops,r,hl,h=>by cases h
 | N+1,e,way,ops,r,hl,h=>by
  unfold Xr at h;split at h
  ·cases h;exact hl
  rename_i h20
  split at h
  ·cases h;exact hl
  split at h
  ·split at h
   ·exact Ki N _ _ _ r (by rw[Zw,Zp,Zv];omega) h
   cases h
  split at h
  ·split at h
   ·exact Ki N _ _ _ r hl h
   cases h
  cases h;exact hl
theorem Kk{flows:List FL}{nI:Nat}{xIx fIx iIx:IE}(hx:∀k j,xIx k=some j→j≤1000)(hi:∀k j,iIx k=some j→j≤1000)(hn:nI≤1000):∀(N:Nat)(e:PE)(way:ByteArray)(ops:List Op3)(r:Nat × List Op3),Xr flows nI xIx fIx iIx N e way ops=some r→r.1≤2000
 | 0,e,way,ops,r,h=>by cases h
 | N+1,e,way,ops,r,h=>by
  unfold Xr at h;split at h
  ·cases h;exact Zk _
  split at h
  ·cases h
   show nI+(xIx way).getD 0≤2000
   cases hq:xIx way with
   | none=>simp;omega
   | some j=>have:=hx _ _ hq;simp;omega
  split at h
  ·split at h
   ·exact Kk hx hi hn N _ _ _ r h
   cases h
  split at h
  ·split at h
   ·exact Kk hx hi hn N _ _ _ r h
   cases h
  cases h
  show(iIx e.nm).getD 0≤2000
  cases hq:iIx e.nm with
  | none=>simp
  | some j=>have:=hi _ _ hq;simp;omega
theorem ZcV:∀(l:PL)(g:ByteArray)(i:Nat),exR l=true→∀s∈YU l g i,YA s.1=true∧s.1.args.sz+1≤l.sz:=by
 intro l
 induction l with
 | nil=>intro g i h s f;simp[YU] at f
 | cons k nm n d args a tl ih1 ih2 =>
  intro g i h s f;have m:=G8 (.cons k nm n d args a tl) 0 ⟨k,nm,n,d,args,a⟩ h rfl;have q:exR args=true:=by
   have:=m;unfold YA at this;rw[ZA] at this;exact this.1
  have v:exR tl=true:=by
   rw[exR,ZA] at h;exact h.2
  simp only[YU,ZQ,List.mem_append] at f;rw[show(PL.cons k nm n d args a tl).sz=args.sz+1+tl.sz from rfl];rcases f with rfl|f|f
  ·exact⟨m,by show args.sz+1≤_;omega⟩
  ·obtain⟨j,x⟩:=ih1 _ _ q s f;exact⟨j,oq⟩
  obtain⟨j,x⟩:=ih2 _ _ v s f;exact⟨j,oq⟩
theorem ZaO{e:PE}{j:ByteArray}(h:YA e=true):∀s∈YT e j,YA s.1=true∧s.1.args.sz+1≤e.sz:=by
 intro s f;unfold YT at f;rcases ZQ.1 f with rfl|f
 ·exact⟨h,Zc _⟩
 have g:=h;unfold YA at g;rw[ZA] at g;obtain⟨m,q⟩:=ZcV _ _ _ g.1 s f;exact⟨m,by unfold PE.sz;omega⟩
theorem Kl:∀(l:List FL)(i:Nat),(∀f∈l,f.e.sz≤100∧YA f.e=true)→∀s∈YM l i,YA s.1=true∧s.1.args.sz+1≤100∧s.1.k=2
 | [],i,h,s,hs=>by simp[YM] at hs
 | f::l,i,h,s,hs=>by
  unfold YM at hs;rcases List.mem_append.1 hs with hs|hs
  ·obtain⟨h1,h2⟩:=List.mem_filter.1 hs;obtain⟨h3,h4⟩:=ZaO (h f (by simp)).2 s h1;have:=(h f (by simp)).1;exact⟨h3,oq,by simpa [isC] using h2⟩
  exact Kl l (i+1) (fun f' hf=>h f' (by simp[hf])) s hs
theorem qA:∀(l:PL)(f:ByteArray)(i:Nat),exR l=true→∀k∈Xx l f i,YA k.1=true:=by
 intro l
 induction l with
 | nil=>intro f i h k q;simp[Xx] at q
 | cons k nm n d args a tl ih1 ih2 =>
  intro f i h s g;have j:=G8 (.cons k nm n d args a tl) 0 ⟨k,nm,n,d,args,a⟩ h rfl;have m:exR tl=true:=by
   rw[exR,ZA] at h;exact h.2
  simp only[Xx,ZQ] at g;rcases g with rfl|g
  ·exact j
  exact ih2 _ _ m s g
noncomputable def Ko(p:PG)(env:Env):FD :=
 ⟨p.ins.map (fun x=>(x.per,x.ph)),p.nodes.map ZaW,(YM p.flows 0).map (fun s=>Gs (tkR p (xI p) (fI p) (iI p) (nI p) (Kn p env) s)),p.outs.map (fun o=>Zc8 (tlR p (xI p) (fI p) (iI p) (Kn p env) o))⟩
theorem kR{p:PG}(v:∀e:PE,YA e=true→Xd p.flows p.ins.length (xI p) (fI p) (iI p) e)(q:(YM p.flows 0).length≤30)(g:p.ins.length≤1000){e:PE}(x:YA e=true)(f:ByteArray) :
  (JH p (xI p) (fI p) (iI p) e f).2.length≤21∧(JH p (xI p) (fI p) (iI p) e f).1≤2000:=by
 obtain⟨N,m⟩:=Jb (v e x) f;exact⟨Ki N _ _ _ _ (by simp) m,Kk (yR _ _ _ 1000 (by rw[Zo];omega) (fun k j h=>by cases h)) (yR _ _ _ 1000 (by rw[Zo];omega) (fun k j h=>by cases h)) g N _ _ _ _ m⟩
theorem Zd1{p:PG}{env:Env}{base:Nat}{w:World}{v:Value}(h:Uh p env base w v)(f:JL p)(z:∀e:PE,YA e=true→Xd p.flows p.ins.length (xI p) (fI p) (iI p) e)(g:(YM p.flows 0).length≤30)
  (q:∀o∈p.outs,∃j,fI p o.fl=some j∧j<p.flows.length) :
  ∃ai an aT al ci cn ct cl,v=fv (Ko p env) ai an aT al ci cn ct cl∧FAP w (Ko p env) ai an aT al:=by
 obtain⟨vI,vN,vT,vL,rfl,R,T,U,V⟩:=h;obtain⟨ai,ci,rfl,M⟩:=ZdO R;obtain⟨an,cn,rfl,O⟩:=Zcr T;obtain⟨aT,ct,rfl,C⟩:=Zc4 U;obtain⟨al,cl,rfl,D⟩:=Zc6 V;have Z:=f.lens;rw[List.map_map] at C D;refine⟨ai,an,aT,al,ci,cn,ct,cl,by unfold fv Ko;simp only[Zo],M,O,C,D,by unfold Ko;simp only[Zo];omega,?_,?_⟩
 ·intro t ht;obtain⟨s,J,rfl⟩:=Yc.1 ht;obtain⟨x,X,_⟩:=Kl p.flows 0 f.flows s J;have Y:=Qq s.1.args;have G:exR s.1.args=true:=by
   unfold YA at x;rw[ZA] at x;exact x.1
  refine⟨by simp[Gs,tkR,JQ];omega,fun a ha=>?_⟩;simp only[Gs,tkR,List.map_map,Yc] at ha;obtain⟨A,y,rfl⟩:=ha;obtain⟨E,F⟩:=kR z g oq (qA _ _ _ G A y) A.2;simp only[Function.comp,Zc7,List.length_reverse,I64];omega
 intro t ht;obtain⟨o,I,rfl⟩:=Yc.1 ht;obtain⟨j,H,m⟩:=q o I;have L:YA (flE p ((fI p o.fl).getD 0))=true:=by
  rw[H];unfold flE;rw[Z7,Ze m];exact(f.flows _ (Zi m)).2
 obtain⟨E,F⟩:=kR z g oq L (dg ((fI p o.fl).getD 0));simp only[Zc8,tlR,List.length_reverse,I64];omega
open Go.RowKit
theorem gD{n lo hi:Int}(h:inB n lo hi=true)(f:-1000000000≤lo)(g:hi≤1000000000):B64 n:=by
 unfold inB at h;simp only[ZA,Yi] at h;unfold B64;omega
theorem ZeP{k n d:Int}{nm:ByteArray}{len:Nat}(h:bdE k n d nm len=true):B64 n:=by
 have f:B64 0:=by unfold B64;omega
 unfold bdE at h;split at h
 ·cases h
 split at h
 ·simp only[ZA,Yi] at h;rw[h.2];exact f
 split at h
 ·simp only[ZA] at h;exact gD h.2 oq oq
 split at h
 ·cases h
 rename_i hk
 have:n=0:=by
  by_cases g:n=0
  ·exact g
  exact absurd (Or.inr g) hk
 rw[this];exact f
theorem yG:∀l:PL,bdR l=true→l.n64
 | .nil,_=>trivial
 | .cons k nm n d args a tl,h=>by
  rw[bdR,ZA,ZA] at h;exact⟨ZeP h.1.2,yG args h.1.1,yG tl h.2⟩
theorem eJ{e:PE}(h:XF e=true):e.n64:=by
 unfold XF at h;rw[ZA] at h;exact⟨ZeP h.2,yG _ h.1⟩
theorem ZgI{k n d:Int}{nm:ByteArray}{len:Nat}(h:exE k n d nm len=true):B64 n:=by
 have f:B64 0:=by unfold B64;omega
 unfold exE at h;split at h
 ·simp only[ZA,Yi] at h;rw[h.1.2];exact f
 split at h
 ·simp only[ZA,Yi] at h;rw[h.1.2];exact f
 split at h
 ·cases h
 split at h
 ·exact gD h oq oq
 split at h
 ·simp only[ZA] at h;exact gD h.1 oq oq
 split at h
 ·exact gD h oq oq
 simp only[ZA,Yi] at h;rw[h.2];exact f
theorem Kj{g:List FL}{nI:Nat}{xIx q iIx:IE}(v:∀f∈g,YA f.e=true):∀(N:Nat)(e:PE)(m:ByteArray)(j:List Op3)(r:Nat × List Op3),YA e=true→(∀o∈j,B64 o.2.1)→Xr g nI xIx q iIx N e m j=some r→∀o∈r.2,B64 o.2.1
 | 0,e,m,j,r,he,ho,h=>by cases h
 | N+1,e,m,j,r,he,ho,h=>by
  have hen:B64 e.n∧exR e.args=true:=by
   unfold YA at he;rw[ZA] at he;exact⟨ZgI he.2,he.1⟩
  unfold Xr at h;split at h
  ·cases h;exact ho
  split at h
  ·cases h;exact ho
  split at h
  ·split at h
   ·rename_i c hc
    refine Kj v N _ _ _ r (G8 _ _ _ hen.2 hc) (fun o h1=>?_) h;rcases List.mem_append.1 h1 with h1|h1
    ·exact ho o h1
    rw[List.mem_singleton.1 h1];exact hen.1
   cases h
  split at h
  ·split at h
   ·rename_i f hfl
    exact Kj v N _ _ _ r (v f (Z8 hfl)) ho h
   cases h
  cases h;exact ho
theorem zt:∀(l:List Op3)(n:Int)(e:Int × Int × Int),index.YX l n=.error e→e.2.1=0∨∃o∈l,e.2.1=o.2.1
 | [],n,e,h=>by cases h
 | o::r,n,e,h=>by
  unfold index.YX at h
  cases hs:index.YQ o n with
  | ok t =>
   rw[hs] at h;rcases zt r t e h with h|⟨o',h1,h2⟩
   ·exact .inl h
   exact .inr ⟨o',List.mem_cons_of_mem _ h1,h2⟩
  | error e' =>
   rw[hs] at h
   cases h
   unfold index.YQ at hs;split at hs
   ·cases hs
    exact .inr ⟨o,by simp,rfl⟩
   split at hs
   ·cases hs
   cases hs
   exact .inl rfl
theorem eG(l:List Op3)(h:∀o∈l,B64 o.2.1)(n:Int):B64 (index.Xv l n).2.1:=by
 have f:B64 0:=by unfold B64;omega
 unfold index.Xv;split
 ·exact f
 cases hb:index.YX l.reverse n with
 | ok m=>exact f
 | error e =>
  rcases zt _ _ _ hb with h1|⟨o,h1,h2⟩
  ·show B64 e.2.1;rw[h1];exact f
  show B64 e.2.1;rw[h2];exact h o (List.mem_reverse.1 h1)
def Zf4(x:ND):NE:=⟨x.bud,x.ps,x.body⟩
theorem Zd2{w:World}{base:Nat}{v:Value}{l:List ND}(h:Xk Ui 113 10 w base v l):∃ad cap,v=.slice ad l.length cap∧Row NdE 10 w (l.map Zf4) ad :=
 h.row (P:=NdE) Zf4 (fun g o c x hg hx hc hPe hcell=>by
  obtain⟨pa,pc,ad,cap,rfl,hps,hcap,hsl⟩:=hPe;refine⟨x.nm,pa,pc,ad,cap,x.a,hcell 0 oq,hcell 1 oq,hcell 2 oq,hcell 3 oq,hcell 4 oq,hcell 5 oq,hcell 6 oq,hcell 7 oq,hcell 8 oq,hcell 9 oq,?_,hcap,hsl⟩;rcases hps.2 with ⟨_,hn⟩|⟨g2,cap2,cur,e,hb,hg2,_⟩
  ·exact .inl (Yb hn)
  injection e with e1 e2 e3
  subst e1;exact .inr ⟨g2,0,rfl,Zb hg2,fun i y hy=>by
   rw[ZC];exact(World.ownsRow.cellAt hps i (by rw[Z6];exact(Zz.1 hy).1)).trans (by rw[List.getElem?_map,show x.ps[i]?=some y from hy];rfl)⟩)
def MdX(p:PG)(x:Ending)(w':World):Prop:=x=.returned (.tuple #[.agg #[.slice none 0 0,.slice none 0 0,.slice none 0 0,.slice none 0 0],.bool false])∨∃env ai an aT al ci cn ct cl,x=.returned (.tuple #[fv (Ko p env) ai an aT al ci cn ct cl,.bool true])∧FAP w' (Ko p env) ai an aT al∧xJ w' (Ko p env) an (p.nodes.map Zf4) ∧
 JG p∧Qg p∧Ug p env∧(YM p.flows 0).length≤30∧Qi p (xI p) (fI p) (iI p) p.flows 0=true
theorem ZfC{p:PG}{base:Nat}{x:Ending}{w':World}(h:ym p base x w'):MdX p x w':=by
 rcases h with h|⟨v,env,hx,hmk,hr,hN,hC,h30,hfew⟩
 ·exact .inl h
 have g:=hr.ok;have M:=GA g hN hC;have z:∀o∈p.outs,∃j,fI p o.fl=some j∧j<p.flows.length:=fun o ho=>by
  obtain⟨i,hi,G⟩:=Yk ho;have:=hN.outs i hi;rw[G] at this;exact uc this
 obtain⟨T,an,R,U,V,X,Y,cl,q,E⟩:=Zd1 hmk g M h30 z;obtain⟨vI,vN,vT,vL,H,_,r2,_,_⟩:=hmk;obtain⟨L,cap,I,A⟩:=Zd2 r2;have D:L=an:=by
  rw[H] at q;unfold fv at q;injection q with q
  have m:=Z1 (fun a:Array Value=>a[1]?) q;rw[I] at m;simp at m;exact m.1
 subst D;refine .inr ⟨env,T,L,R,U,V,X,Y,cl,by rw[hx,q],E,⟨A,by simp[Ko],fun n hn=>?_,fun t ht a ha n=>?_⟩,hr,hN,hC,h30,hfew⟩
 ·obtain⟨y,hy,rfl⟩:=Yc.1 hn;have m:=hr.nodes y hy;have Z:=(g.nodes y hy).2;exact⟨by show y.ps.length≤1000;omega,by show y.body.sz≤1000;omega,eJ m.2.2.2.2⟩
 obtain⟨s,hs,rfl⟩:=Yc.1 ht;obtain⟨m,Z,_⟩:=Kl p.flows 0 g.flows s hs;have h4:exR s.1.args=true:=by
  unfold YA at m;rw[ZA] at m;exact m.1
 simp only[Gs,tkR,List.map_map,Yc] at ha;obtain⟨J,F,rfl⟩:=ha;refine eG _ (fun o ho=>?_) n;have O:=qA _ _ _ h4 J F;obtain⟨N,C⟩:=Jb (M J.1 O) J.2;refine Kj (fun f E=>(g.flows f E).2) N _ _ _ _ O (fun o h=>by cases h) C o ?_;simpa [Function.comp,Zc7] using ho
end Go.Proofs.YtdgifkjaflfdeaaGreatDoor.syn
