/- Parts of the proof. -/
import Derived.Test.YtdgifkjaflfdeaaGreatDoorJ25
import Derived.Test.YtdgifkjaflfdeaaGreatDoorJ26
set_option linter.all false
set_option maxRecDepth 100000
set_option maxHeartbeats 16000000
namespace Go.Proofs.YtdgifkjaflfdeaaGreatDoor.syn
open Tryz
open Go.RowKit Go.Shelf
variable {e:PE}{w:World}{base:Nat}{v:Value}{p:PG}
theorem flat_get{α:Type}{size:Nat}:∀(f:List (List α))(i j:Nat),(∀c∈f,c.length=size)->∀h:i<f.length,j<size->f.flatten[i*size+j]?=f[i][j]?
 | [],i,j,_,h,_=>absurd h (Yk _)
 | c::f,0,j,hl,_,hj=>by
  have h1:c.length=size:=hl c (by simp);rw[List.flatten_cons,Nat.zero_mul,ZD,List.getElem?_append_left oq];rfl
 | c::f,i+1,j,hl,h,hj=>by
  have h1:c.length=size:=hl c (by simp);have e:(i+1)*size+j=c.length+(i*size+j):=by rw[h1,Nat.succ_mul];omega
  rw[List.flatten_cons,e,List.getElem?_append_right oq,Nat.add_sub_cancel_left];rw[flat_get f i j (fun c' hc=>hl c' (by simp[hc])) (by simpa using h) hj];rfl
theorem Xx.row{α β:Type}{Pe:World->List Value->α->Prop}{P:World->Nat->Nat->β->Prop}{e:TypeId}{size:Nat}{l:List α}(F:α->β)(h:Xx Pe e size w base v l)
  (C:∀(g o:Nat)(c:List Value)(x:α),g<w.1.size->x∈l->c.length=size->Pe w c x->(∀j,j<size->w.cell? ⟨g,o+j,none⟩=c[j]?)->P w g o (F x)) :
  ∃ad cap,v=.slice ad l.length cap/\Row P size w (l.map F) ad:=by
 obtain⟨q,E,z,y,A⟩:=h;rcases z.2 with ⟨rfl,h0⟩|⟨g,cap,cur,rfl,hbg,hg,hnc,hcm,hcs,htk⟩
 .obtain rfl:l=[]:=Yc h0;exact⟨none,0,rfl,.inl rfl⟩
 refine⟨_,_,rfl,?_⟩;by_cases D:l=[]
 .exact .inl (by rw[D];rfl)
 refine .inr ⟨g,0,rfl,Zb hg,fun i hi=>?_⟩;have f:i<l.length:=by simpa using hi
 have m:i<q.length:=oq;rw[List.getElem_map];refine C g _ q[i] l[i] (Zb hg) (Zi f) (y _ (Zi m)) (A i f m) (fun j hj=>?_);rw[<-flat_get q i j y m hj,<-htk,Yn (by
  have:(i+1)*size<=l.length*size:=Nat.mul_le_mul_right _ f;rw[Nat.succ_mul] at this;omega),Array.getElem?_toList,ZD]
 exact U4 hg _
theorem yJ:∀l:List Op3,QH l=(l.map opL).flatten
 | []=>rfl
 | o::l=>by
  rw[List.map_cons,List.flatten_cons,<-yJ l];rfl
theorem Zad{f:List Op3}(h:w.ownsRow base 183 3 v f.length (QH f)):∃ad cap,v=.slice ad f.length cap/\Row OpR 3 w f ad:=by
 have j:Xx (fun _ c (x:Op3)=>c=opL x) 183 3 w base v f:=⟨f.map opL,by simp,by rw[<-yJ];exact h,fun c hc=>by obtain⟨x,_,rfl⟩:=Yd.1 hc;rfl,fun i hi hi'=>by rw[List.getElem_map]⟩;have:=j.row (P:=OpR) (fun x=>x) (fun g o c x hg hx hc hPe hcell=>by
  subst hPe;exact⟨hcell 0 oq,hcell 1 oq,hcell 2 oq⟩)
 rwa [List.map_id'] at this
theorem ZeI{l:List (Int × Int)}(h:Xx qh 50 2 w base v l):∃ad cap,v=.slice ad l.length cap/\Row Zee 2 w l ad:=by
 have:=h.row (P:=Zee) (fun x=>x) (fun g o c x hg hx hc f hcell=>by
  have f:c=[.int .i64 x.1,.int .i64 x.2]:=f;subst f;exact⟨hcell 0 oq,hcell 1 oq⟩)
 rwa [List.map_id'] at this
def Zfr(a:Nat × List Op3):AD:=⟨(a.1:Int),a.2⟩
def zK(t:TK):TD:=⟨t.node,t.per,t.ph,t.args.map Zfr⟩
def Zd7(t:TL):LD:=⟨t.per,t.ph,⟨(t.src:Int),t.ops⟩,t.dl⟩
def ZbJ(x:ND):NB:=⟨x.bud,x.ps.length⟩
theorem Zew{l:List (Nat × List Op3)}(h:Xx (Uv base) 92 2 w base v l):∃ad cap,v=.slice ad l.length cap/\Row ua 2 w (l.map Zfr) ad :=
 h.row (P:=ua) Zfr (fun g o c x hg hx hc hPe hcell=>by
  obtain⟨u,rfl,ho⟩:=hPe;obtain⟨ad2,cap2,rfl,hr⟩:=Zad ho;exact⟨hcell 0 oq,ad2,cap2,hcell 1 oq,hr⟩)
theorem Zd3{l:List TK}(h:Xx (Q2 base) 53 4 w base v l):∃ad cap,v=.slice ad l.length cap/\Row Zb1 4 w (l.map zK) ad :=
 h.row (P:=Zb1) zK (fun g o c x hg hx hc hPe hcell=>by
  obtain⟨u,rfl,ho⟩:=hPe;obtain⟨ad2,cap2,rfl,hr⟩:=Zew ho;exact⟨hcell 0 oq,hcell 1 oq,hcell 2 oq,ad2,cap2,by rw[show(zK x).args.length=x.args.length by simp[zK]];exact hcell 3 oq,hr⟩)
theorem Zd5{l:List TL}(h:Xx (Jk base) 94 5 w base v l):∃ad cap,v=.slice ad l.length cap/\Row Zen 5 w (l.map Zd7) ad :=
 h.row (P:=Zen) Zd7 (fun g o c x hg hx hc hPe hcell=>by
  obtain⟨u,rfl,ho⟩:=hPe;obtain⟨ad2,cap2,rfl,hr⟩:=Zad ho;exact⟨hcell 0 oq,hcell 1 oq,hcell 2 oq,hcell 4 oq,ad2,cap2,hcell 3 oq,hr⟩)
theorem Zdq{l:List ND}(h:Xx UT 113 10 w base v l):∃ad cap,v=.slice ad l.length cap/\Row NdR 10 w (l.map ZbJ) ad :=
 h.row (P:=NdR) ZbJ (fun g o c x hg hx hc hPe hcell=>by
  obtain⟨pa,pc,ad,cap,rfl,_⟩:=hPe;exact⟨_,_,_,_,_,_,_,_,_,_,_,_,hcell 0 oq,hcell 1 oq,hcell 2 oq,hcell 3 oq,hcell 4 oq,hcell 5 oq,hcell 6 oq,hcell 7 oq,hcell 8 oq,hcell 9 oq⟩)
theorem KN{flows:List FL}{nI:Nat}{xIx fIx iIx:IE}:∀(N:Nat)(e:PE)(way:ByteArray)(ops:List Op3)(r:Nat × List Op3),ops.length<=21->XL flows nI xIx fIx iIx N e way ops=some r->r.2.length<=21
 | 0,e,way,ops,r,hl,h=>by cases h
 | N+1,e,way,ops,r,hl,h=>by
  unfold XL at h;split at h
  .cases h;exact hl
  rename_i h20
  split at h
  .cases h;exact hl
  split at h
  .split at h
   .exact KN N _ _ _ r (by rw[Zx,Zp,Zw];omega) h
   cases h
  split at h
  .split at h
   .exact KN N _ _ _ r hl h
   cases h
  cases h;exact hl
theorem KQ{flows:List FL}{nI:Nat}{xIx fIx iIx:IE}(hx:∀k j,xIx k=some j->j<=1000)(hi:∀k j,iIx k=some j->j<=1000)(hn:nI<=1000):∀(N:Nat)(e:PE)(way:ByteArray)(ops:List Op3)(r:Nat × List Op3),XL flows nI xIx fIx iIx N e way ops=some r->r.1<=2000
 | 0,e,way,ops,r,h=>by cases h
 | N+1,e,way,ops,r,h=>by
  unfold XL at h;split at h
  .cases h;exact Zk _
  split at h
  .cases h
   show nI+(xIx way).getD 0<=2000
   cases hq:xIx way with
   | none=>simp;omega
   | some j=>have:=hx _ _ hq;simp;omega
  split at h
  .split at h
   .exact KQ hx hi hn N _ _ _ r h
   cases h
  split at h
  .split at h
   .exact KQ hx hi hn N _ _ _ r h
   cases h
  cases h
  show(iIx e.nm).getD 0<=2000
  cases hq:iIx e.nm with
  | none=>simp
  | some j=>have:=hi _ _ hq;simp;omega
theorem ZdX:∀(l:PL)(g:ByteArray)(i:Nat),exR l=true->∀s∈YY l g i,YE s.1=true/\s.1.args.sz+1<=l.sz:=by
 intro l
 induction l with
 | nil=>intro g i h s f;simp[YY] at f
 | cons k nm n d args a tl ih1 ih2 =>
  intro g i h s f;have m:=xF (.cons k nm n d args a tl) 0 ⟨k,nm,n,d,args,a⟩ h rfl;have q:exR args=true:=by
   have:=m;unfold YE at this;rw[ZB] at this;exact this.1
  have v:exR tl=true:=by
   rw[exR,ZB] at h;exact h.2
  simp only[YY,ZR,List.mem_append] at f;rw[show(PL.cons k nm n d args a tl).sz=args.sz+1+tl.sz from rfl];rcases f with rfl|f|f
  .exact⟨m,by show args.sz+1<=_;omega⟩
  .obtain⟨j,x⟩:=ih1 _ _ q s f;exact⟨j,oq⟩
  obtain⟨j,x⟩:=ih2 _ _ v s f;exact⟨j,oq⟩
theorem ZbC{j:ByteArray}(h:YE e=true):∀s∈YX e j,YE s.1=true/\s.1.args.sz+1<=e.sz:=by
 intro s f;unfold YX at f;rcases ZR.1 f with rfl|f
 .exact⟨h,Zc _⟩
 have g:=h;unfold YE at g;rw[ZB] at g;obtain⟨m,q⟩:=ZdX _ _ _ g.1 s f;exact⟨m,by unfold PE.sz;omega⟩
theorem yl:∀(l:List FL)(i:Nat),(∀f∈l,f.e.sz<=100/\YE f.e=true)->∀s∈YP l i,YE s.1=true/\s.1.args.sz+1<=100/\s.1.k=2
 | [],i,h,s,hs=>by simp[YP] at hs
 | f::l,i,h,s,hs=>by
  unfold YP at hs;rcases List.mem_append.1 hs with hs|hs
  .obtain⟨h1,h2⟩:=List.mem_filter.1 hs;obtain⟨h3,h4⟩:=ZbC (h f (by simp)).2 s h1;have:=(h f (by simp)).1;exact⟨h3,oq,by simpa [isC] using h2⟩
  exact yl l (i+1) (fun f' hf=>h f' (by simp[hf])) s hs
theorem ZcW:∀(l:PL)(f:ByteArray)(i:Nat),exR l=true->∀k∈XI l f i,YE k.1=true:=by
 intro l
 induction l with
 | nil=>intro f i h k q;simp[XI] at q
 | cons k nm n d args a tl ih1 ih2 =>
  intro f i h s g;have j:=xF (.cons k nm n d args a tl) 0 ⟨k,nm,n,d,args,a⟩ h rfl;have m:exR tl=true:=by
   rw[exR,ZB] at h;exact h.2
  simp only[XI,ZR] at g;rcases g with rfl|g
  .exact j
  exact ih2 _ _ m s g
noncomputable def zR(p:PG)(env:Env):FD :=
 ⟨p.ins.map (fun x=>(x.per,x.ph)),p.nodes.map ZbJ,(YP p.flows 0).map (fun s=>zK (tkR p (xI p) (fI p) (iI p) (nI p) (K1 p env) s)),p.outs.map (fun o=>Zd7 (tlR p (xI p) (fI p) (iI p) (K1 p env) o))⟩
theorem eE(v:∀e:PE,YE e=true->Xi p.flows p.ins.length (xI p) (fI p) (iI p) e)(q:(YP p.flows 0).length<=30)(g:p.ins.length<=1000)(x:YE e=true)(f:ByteArray) :
  (JW p (xI p) (fI p) (iI p) e f).2.length<=21/\(JW p (xI p) (fI p) (iI p) e f).1<=2000:=by
 obtain⟨N,m⟩:=J3 (v e x) f;exact⟨KN N _ _ _ _ (by simp) m,KQ (xK _ _ _ 1000 (by rw[Zo];omega) (fun k j h=>by cases h)) (xK _ _ _ 1000 (by rw[Zo];omega) (fun k j h=>by cases h)) g N _ _ _ _ m⟩
theorem ZeW{env:Env}(h:Uw p env base w v)(f:J2 p)(z:∀e:PE,YE e=true->Xi p.flows p.ins.length (xI p) (fI p) (iI p) e)(g:(YP p.flows 0).length<=30)
  (q:∀o∈p.outs,∃j,fI p o.fl=some j/\j<p.flows.length) :
  ∃ai an aT al ci cn ct cl,v=fv (zR p env) ai an aT al ci cn ct cl/\FAP w (zR p env) ai an aT al:=by
 obtain⟨vI,vN,vT,vL,rfl,R,T,U,V⟩:=h;obtain⟨ai,ci,rfl,M⟩:=ZeI R;obtain⟨an,cn,rfl,O⟩:=Zdq T;obtain⟨aT,ct,rfl,C⟩:=Zd3 U;obtain⟨al,cl,rfl,D⟩:=Zd5 V;have Z:=f.lens;rw[List.map_map] at C D;refine⟨ai,an,aT,al,ci,cn,ct,cl,by unfold fv zR;simp only[Zo],M,O,C,D,by unfold zR;simp only[Zo];omega,?_,?_⟩
 .intro t ht;obtain⟨s,J,rfl⟩:=Yd.1 ht;obtain⟨x,X,_⟩:=yl p.flows 0 f.flows s J;have Y:=QW s.1.args;have G:exR s.1.args=true:=by
   unfold YE at x;rw[ZB] at x;exact x.1
  refine⟨by simp[zK,tkR,Va];omega,fun a ha=>?_⟩;simp only[zK,tkR,List.map_map,Yd] at ha;obtain⟨A,y,rfl⟩:=ha;obtain⟨E,F⟩:=eE z g oq (ZcW _ _ _ G A y) A.2;simp only[Function.comp,Zfr,List.length_reverse,I64];omega
 intro t ht;obtain⟨o,I,rfl⟩:=Yd.1 ht;obtain⟨j,H,m⟩:=q o I;have L:YE (flE p ((fI p o.fl).getD 0))=true:=by
  rw[H];unfold flE;rw[Z8,Ze m];exact(f.flows _ (Zi m)).2
 obtain⟨E,F⟩:=eE z g oq L (dg ((fI p o.fl).getD 0));simp only[Zd7,tlR,List.length_reverse,I64];omega
