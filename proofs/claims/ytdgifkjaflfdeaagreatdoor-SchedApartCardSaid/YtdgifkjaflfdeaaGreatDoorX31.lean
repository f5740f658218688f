/- Parts of the proof. -/
import Derived.Test.YtdgifkjaflfdeaaGreatDoorX25
import Derived.Test.YtdgifkjaflfdeaaGreatDoorX26
set_option linter.all false
set_option maxRecDepth 100000
set_option maxHeartbeats 16000000
namespace Go.Proofs.YtdgifkjaflfdeaaGreatDoor.syn
open Tryz
open Go.RowKit Go.Shelf
variable {e:PE}{w:World}{base:Nat}{v:Value}{p:PG}
theorem flat_get{α:Type}{size:Nat}:∀(f:List (List α))(i j:Nat),(∀c∈f,c.length=size)->∀h:i<f.length,j<size->f.flatten[i*size+j]?=f[i][j]?
 | [],i,j,_,h,_=>absurd h (Ym _)
 | c::f,0,j,hl,_,hj=>by
  have h1:c.length=size:=hl c (by simp);rw[List.flatten_cons,Nat.zero_mul,ZE,List.getElem?_append_left oq];rfl
 | c::f,i+1,j,hl,h,hj=>by
  have h1:c.length=size:=hl c (by simp);have e:(i+1)*size+j=c.length+(i*size+j):=by rw[h1,Nat.succ_mul];omega
  rw[List.flatten_cons,e,List.getElem?_append_right oq,Nat.add_sub_cancel_left];rw[flat_get f i j (fun c' hc=>hl c' (by simp[hc])) (by simpa using h) hj];rfl
theorem XB.row{α β:Type}{Pe:World->List Value->α->Prop}{P:World->Nat->Nat->β->Prop}{e:TypeId}{size:Nat}{l:List α}(F:α->β)(h:XB Pe e size w base v l)
  (C:∀(g o:Nat)(c:List Value)(x:α),g<w.1.size->x∈l->c.length=size->Pe w c x->(∀j,j<size->w.cell? ⟨g,o+j,none⟩=c[j]?)->P w g o (F x)) :
  ∃ad cap,v=.slice ad l.length cap/\Row P size w (l.map F) ad:=by
 obtain⟨q,E,z,y,A⟩:=h;rcases z.2 with ⟨rfl,h0⟩|⟨g,cap,cur,rfl,hbg,hg,hnc,hcm,hcs,htk⟩
 .obtain rfl:l=[]:=Ye h0;exact⟨none,0,rfl,.inl rfl⟩
 refine⟨_,_,rfl,?_⟩;by_cases D:l=[]
 .exact .inl (by rw[D];rfl)
 refine .inr ⟨g,0,rfl,Zb hg,fun i hi=>?_⟩;have f:i<l.length:=by simpa using hi
 have m:i<q.length:=oq;rw[List.getElem_map];refine C g _ q[i] l[i] (Zb hg) (Zi f) (y _ (Zi m)) (A i f m) (fun j hj=>?_);rw[<-flat_get q i j y m hj,<-htk,Yp (by
  have:(i+1)*size<=l.length*size:=Nat.mul_le_mul_right _ f;rw[Nat.succ_mul] at this;omega),Array.getElem?_toList,ZE]
 exact UP hg _
theorem yk:∀l:List Op3,Qy l=(l.map opL).flatten
 | []=>rfl
 | o::l=>by
  rw[List.map_cons,List.flatten_cons,<-yk l];rfl
theorem gS{f:List Op3}(h:w.ownsRow base 183 3 v f.length (Qy f)):∃ad cap,v=.slice ad f.length cap/\Row OpR 3 w f ad:=by
 have j:XB (fun _ c (x:Op3)=>c=opL x) 183 3 w base v f:=⟨f.map opL,by simp,by rw[<-yk];exact h,fun c hc=>by obtain⟨x,_,rfl⟩:=Yf.1 hc;rfl,fun i hi hi'=>by rw[List.getElem_map]⟩;have:=j.row (P:=OpR) (fun x=>x) (fun g o c x hg hx hc hPe hcell=>by
  subst hPe;exact⟨hcell 0 oq,hcell 1 oq,hcell 2 oq⟩)
 rwa [List.map_id'] at this
theorem Zec{l:List (Int × Int)}(h:XB xQ 50 2 w base v l):∃ad cap,v=.slice ad l.length cap/\Row ZdL 2 w l ad:=by
 have:=h.row (P:=ZdL) (fun x=>x) (fun g o c x hg hx hc f hcell=>by
  have f:c=[.int .i64 x.1,.int .i64 x.2]:=f;subst f;exact⟨hcell 0 oq,hcell 1 oq⟩)
 rwa [List.map_id'] at this
def Ze0(a:Nat × List Op3):AD:=⟨(a.1:Int),a.2⟩
def zl(t:TK):TD:=⟨t.node,t.per,t.ph,t.args.map Ze0⟩
def ZdC(t:TL):LD:=⟨t.per,t.ph,⟨(t.src:Int),t.ops⟩,t.dl⟩
def Zbc(x:ND):NB:=⟨x.bud,x.ps.length⟩
theorem Zd0{l:List (Nat × List Op3)}(h:XB (Gr base) 92 2 w base v l):∃ad cap,v=.slice ad l.length cap/\Row xP 2 w (l.map Ze0) ad :=
 h.row (P:=xP) Ze0 (fun g o c x hg hx hc hPe hcell=>by
  obtain⟨u,rfl,ho⟩:=hPe;obtain⟨ad2,cap2,rfl,hr⟩:=gS ho;exact⟨hcell 0 oq,ad2,cap2,hcell 1 oq,hr⟩)
theorem Zdz{l:List TK}(h:XB (JD base) 53 4 w base v l):∃ad cap,v=.slice ad l.length cap/\Row vw 4 w (l.map zl) ad :=
 h.row (P:=vw) zl (fun g o c x hg hx hc hPe hcell=>by
  obtain⟨u,rfl,ho⟩:=hPe;obtain⟨ad2,cap2,rfl,hr⟩:=Zd0 ho;exact⟨hcell 0 oq,hcell 1 oq,hcell 2 oq,ad2,cap2,by rw[show(zl x).args.length=x.args.length by simp[zl]];exact hcell 3 oq,hr⟩)
theorem ZdB{l:List TL}(h:XB (JX base) 94 5 w base v l):∃ad cap,v=.slice ad l.length cap/\Row ZdU 5 w (l.map ZdC) ad :=
 h.row (P:=ZdU) ZdC (fun g o c x hg hx hc hPe hcell=>by
  obtain⟨u,rfl,ho⟩:=hPe;obtain⟨ad2,cap2,rfl,hr⟩:=gS ho;exact⟨hcell 0 oq,hcell 1 oq,hcell 2 oq,hcell 4 oq,ad2,cap2,hcell 3 oq,hr⟩)
theorem ZcQ{l:List ND}(h:XB G1 113 10 w base v l):∃ad cap,v=.slice ad l.length cap/\Row NdR 10 w (l.map Zbc) ad :=
 h.row (P:=NdR) Zbc (fun g o c x hg hx hc hPe hcell=>by
  obtain⟨pa,pc,ad,cap,rfl,_⟩:=hPe;exact⟨_,_,_,_,_,_,_,_,_,_,_,_,hcell 0 oq,hcell 1 oq,hcell 2 oq,hcell 3 oq,hcell 4 oq,hcell 5 oq,hcell 6 oq,hcell 7 oq,hcell 8 oq,hcell 9 oq⟩)
theorem Kl{flows:List FL}{nI:Nat}{xIx fIx iIx:IE}:∀(N:Nat)(e:PE)(way:ByteArray)(ops:List Op3)(r:Nat × List Op3),ops.length<=21->XG flows nI xIx fIx iIx N e way ops=some r->r.2.length<=21
 | 0,e,way,ops,r,hl,h=>by cases h
 | N+1,e,way,ops,r,hl,h=>by
  unfold XG at h;split at h
  .cases h;exact hl
  rename_i h20
  split at h
  .cases h;exact hl
  split at h
  .split at h
   .exact Kl N _ _ _ r (by rw[Zy,Zp,Zx];omega) h
   cases h
  split at h
  .split at h
   .exact Kl N _ _ _ r hl h
   cases h
  cases h;exact hl
theorem Km{flows:List FL}{nI:Nat}{xIx fIx iIx:IE}(hx:∀k j,xIx k=some j->j<=1000)(hi:∀k j,iIx k=some j->j<=1000)(hn:nI<=1000):∀(N:Nat)(e:PE)(way:ByteArray)(ops:List Op3)(r:Nat × List Op3),XG flows nI xIx fIx iIx N e way ops=some r->r.1<=2000
 | 0,e,way,ops,r,h=>by cases h
 | N+1,e,way,ops,r,h=>by
  unfold XG at h;split at h
  .cases h;exact Zk _
  split at h
  .cases h
   show nI+(xIx way).getD 0<=2000
   cases hq:xIx way with
   | none=>simp;omega
   | some j=>have:=hx _ _ hq;simp;omega
  split at h
  .split at h
   .exact Km hx hi hn N _ _ _ r h
   cases h
  split at h
  .split at h
   .exact Km hx hi hn N _ _ _ r h
   cases h
  cases h
  show(iIx e.nm).getD 0<=2000
  cases hq:iIx e.nm with
  | none=>simp
  | some j=>have:=hi _ _ hq;simp;omega
theorem Zds:∀(l:PL)(g:ByteArray)(i:Nat),exR l=true->∀s∈YW l g i,YF s.1=true/\s.1.args.sz+1<=l.sz:=by
 intro l
 induction l with
 | nil=>intro g i h s f;simp[YW] at f
 | cons k nm n d args a tl ih1 ih2 =>
  intro g i h s f;have m:=yV (.cons k nm n d args a tl) 0 ⟨k,nm,n,d,args,a⟩ h rfl;have q:exR args=true:=by
   have:=m;unfold YF at this;rw[ZC] at this;exact this.1
  have v:exR tl=true:=by
   rw[exR,ZC] at h;exact h.2
  simp only[YW,ZS,List.mem_append] at f;rw[show(PL.cons k nm n d args a tl).sz=args.sz+1+tl.sz from rfl];rcases f with rfl|f|f
  .exact⟨m,by show args.sz+1<=_;omega⟩
  .obtain⟨j,x⟩:=ih1 _ _ q s f;exact⟨j,oq⟩
  obtain⟨j,x⟩:=ih2 _ _ v s f;exact⟨j,oq⟩
theorem Za2{j:ByteArray}(h:YF e=true):∀s∈YV e j,YF s.1=true/\s.1.args.sz+1<=e.sz:=by
 intro s f;unfold YV at f;rcases ZS.1 f with rfl|f
 .exact⟨h,Zc _⟩
 have g:=h;unfold YF at g;rw[ZC] at g;obtain⟨m,q⟩:=Zds _ _ _ g.1 s f;exact⟨m,by unfold PE.sz;omega⟩
theorem zN:∀(l:List FL)(i:Nat),(∀f∈l,f.e.sz<=100/\YF f.e=true)->∀s∈YN l i,YF s.1=true/\s.1.args.sz+1<=100/\s.1.k=2
 | [],i,h,s,hs=>by simp[YN] at hs
 | f::l,i,h,s,hs=>by
  unfold YN at hs;rcases List.mem_append.1 hs with hs|hs
  .obtain⟨h1,h2⟩:=List.mem_filter.1 hs;obtain⟨h3,h4⟩:=Za2 (h f (by simp)).2 s h1;have:=(h f (by simp)).1;exact⟨h3,oq,by simpa [isC] using h2⟩
  exact zN l (i+1) (fun f' hf=>h f' (by simp[hf])) s hs
theorem Zcq:∀(l:PL)(f:ByteArray)(i:Nat),exR l=true->∀k∈XC l f i,YF k.1=true:=by
 intro l
 induction l with
 | nil=>intro f i h k q;simp[XC] at q
 | cons k nm n d args a tl ih1 ih2 =>
  intro f i h s g;have j:=yV (.cons k nm n d args a tl) 0 ⟨k,nm,n,d,args,a⟩ h rfl;have m:exR tl=true:=by
   rw[exR,ZC] at h;exact h.2
  simp only[XC,ZS] at g;rcases g with rfl|g
  .exact j
  exact ih2 _ _ m s g
noncomputable def zr(p:PG)(env:Env):FD :=
 ⟨p.ins.map (fun x=>(x.per,x.ph)),p.nodes.map Zbc,(YN p.flows 0).map (fun s=>zl (tkR p (xI p) (fI p) (iI p) (nI p) (Ku p env) s)),p.outs.map (fun o=>ZdC (tlR p (xI p) (fI p) (iI p) (Ku p env) o))⟩
theorem kW(v:∀e:PE,YF e=true->Xe p.flows p.ins.length (xI p) (fI p) (iI p) e)(q:(YN p.flows 0).length<=30)(g:p.ins.length<=1000)(x:YF e=true)(f:ByteArray) :
  (JO p (xI p) (fI p) (iI p) e f).2.length<=21/\(JO p (xI p) (fI p) (iI p) e f).1<=2000:=by
 obtain⟨N,m⟩:=JZ (v e x) f;exact⟨Kl N _ _ _ _ (by simp) m,Km (yZ _ _ _ 1000 (by rw[Zo];omega) (fun k j h=>by cases h)) (yZ _ _ _ 1000 (by rw[Zo];omega) (fun k j h=>by cases h)) g N _ _ _ _ m⟩
theorem Zep{env:Env}(h:Gt p env base w v)(f:JW p)(z:∀e:PE,YF e=true->Xe p.flows p.ins.length (xI p) (fI p) (iI p) e)(g:(YN p.flows 0).length<=30)
  (q:∀o∈p.outs,∃j,fI p o.fl=some j/\j<p.flows.length) :
  ∃ai an aT al ci cn ct cl,v=fv (zr p env) ai an aT al ci cn ct cl/\FAP w (zr p env) ai an aT al:=by
 obtain⟨vI,vN,vT,vL,rfl,R,T,U,V⟩:=h;obtain⟨ai,ci,rfl,M⟩:=Zec R;obtain⟨an,cn,rfl,O⟩:=ZcQ T;obtain⟨aT,ct,rfl,C⟩:=Zdz U;obtain⟨al,cl,rfl,D⟩:=ZdB V;have Z:=f.lens;rw[List.map_map] at C D;refine⟨ai,an,aT,al,ci,cn,ct,cl,by unfold fv zr;simp only[Zo],M,O,C,D,by unfold zr;simp only[Zo];omega,?_,?_⟩
 .intro t ht;obtain⟨s,J,rfl⟩:=Yf.1 ht;obtain⟨x,X,_⟩:=zN p.flows 0 f.flows s J;have Y:=QO s.1.args;have G:exR s.1.args=true:=by
   unfold YF at x;rw[ZC] at x;exact x.1
  refine⟨by simp[zl,tkR,J6];omega,fun a ha=>?_⟩;simp only[zl,tkR,List.map_map,Yf] at ha;obtain⟨A,y,rfl⟩:=ha;obtain⟨E,F⟩:=kW z g oq (Zcq _ _ _ G A y) A.2;simp only[Function.comp,Ze0,List.length_reverse,I64];omega
 intro t ht;obtain⟨o,I,rfl⟩:=Yf.1 ht;obtain⟨j,H,m⟩:=q o I;have L:YF (flE p ((fI p o.fl).getD 0))=true:=by
  rw[H];unfold flE;rw[Ya,Ze m];exact(f.flows _ (Zi m)).2
 obtain⟨E,F⟩:=kW z g oq L (dg ((fI p o.fl).getD 0));simp only[ZdC,tlR,List.length_reverse,I64];omega
