/- Parts of the proof. -/
import Derived.Test.YtdgifkjaflfdeaaGreatDoorX19
set_option linter.all false
set_option maxRecDepth 100000
set_option maxHeartbeats 16000000
namespace Go.Proofs.YtdgifkjaflfdeaaGreatDoor.syn
open Tryz
open Go.RowKit Go.Shelf
theorem kU{W:World}:∀(l:PL)(b o:Nat),AC W l b o->∃news:List Value,news.length=l.len*6/\(∀j,j<l.len*6->news[j]?=W.cell? ⟨b,o+j,none⟩/\(W.cell? ⟨b,o+j,none⟩).isSome)/\∀u∈news,u.oneCell'=true
 | .nil,b,o,_=>⟨[],by simp[PL.len],fun j h=>by simp[PL.len] at h,by simp⟩
 | .cons k nm n d args a tl,b,o,h=>by
  obtain⟨h0,h1,h2,h3,h5,hn,⟨ad,cap,h4,_⟩,ht⟩:=h;obtain⟨news,hl,hj,h1c⟩:=kU tl b (o+6) ht;refine⟨.int .i64 k::.string nm::.int .i64 n::.int .i64 d::.slice ad args.len cap::.int .i64 a::news,by simp only[Zp,hl,PL.len];omega,?_,?_⟩
  .intro j hlt
   match j,hlt with
   | 0,_=>exact⟨h0.symm,by rw[Nat.add_zero,h0];rfl⟩
   | 1,_=>exact⟨h1.symm,by rw[h1];rfl⟩
   | 2,_=>exact⟨h2.symm,by rw[h2];rfl⟩
   | 3,_=>exact⟨h3.symm,by rw[h3];rfl⟩
   | 4,_=>exact⟨h4.symm,by rw[h4];rfl⟩
   | 5,_=>exact⟨h5.symm,by rw[h5];rfl⟩
   | j+6,hlt =>
    have:=hj j (by simp only[PL.len] at hlt;omega);rw[show o+6+j=o+(j+6) by omega] at this;exact this
  intro u hu;simp only[ZS] at hu;rcases hu with rfl|rfl|rfl|rfl|rfl|rfl|hu
  .rfl
  .rfl
  .rfl
  .rfl
  .rfl
  .rfl
  exact h1c u hu
theorem qE:(prog.info? 111).map (fun i=>(i.zero,i.size,i.bytes))=some (some (.agg #[.int .i64 0,.string ⟨#[]⟩,.int .i64 0,.int .i64 0,.slice none 0 0,.int .i64 0]),6,72):=by kernel_rfl
theorem Zha(w w3:World)(e:TypeId)(size:Nat)(h:w.1.size<=w3.1.size):(w3.alloc (.cells #[] e)).ownsRow w.1.size e size (.slice (some ⟨w3.1.size,0,none⟩) 0 0) 0 [] :=
 ⟨by simp,.inr ⟨w3.1.size,0,#[],rfl,h,Yx w3 _,Zc _,by unfold maxLen;omega,by simp,by simp⟩⟩
theorem Zfd(f:OA)(n cap:Nat)(w:World):(binOp BinOp.eql 109 (.slice f n cap) (.slice none 0 0)).run prog w=.ok (.bool f.isNone) w:=by cases f<;>kernel_rfl
def ClE(W0:World)(b o n base:Nat)(v:Value)(w':World):Prop:=∃ad' cap',v=.slice ad' n cap'/\n<=cap'/\(0<n->∃g cur,ad'=some ⟨g,0,none⟩/\base<=g/\w'.1[g]?=some (.cells cur 111 (0,0))/\∀j,j<n*6->cur[j]?=W0.cell? ⟨b,o+j,none⟩)
theorem vQ{W0 w:World}(l:PL)(D:OA)(cap:Nat)(h:AS W0 l D)(hl:l.len<=1000)(R:Below W0.1.size W0 w) :
  Calls prog 196 #[.slice D l.len cap] w fun x w'=>(∃b o v,x=.returned v/\(0<l.len->D=some ⟨b,o,none⟩)/\ClE W0 b o l.len w.1.size v w')/\Below w.1.size w w':=by
 obtain⟨Y,G,H,I,J⟩:=info_parts qE
 cases D with
 | none =>
  have L:l.len=0:=by
   rcases h with rfl|⟨b,o,h,_⟩
   .rfl
   cases h
  rw[L];have f:=fun w=>Zfd none 0 cap w
  simp only[Option.isNone] at f;go_enter func196,ntmps196;go_wp2;go_ret;exact⟨⟨0,0,_,rfl,fun h=>absurd h oq,none,0,rfl,Zc _,fun h=>absurd h oq⟩,bq⟩
 | some adr =>
  obtain⟨b,o,news,q,C,A,M⟩:∃b o,∃news:List Value,(0<l.len->adr=⟨b,o,none⟩/\b<W0.1.size)/\news.length=l.len*6/\(∀j,j<l.len*6->news[j]?=W0.cell? ⟨b,o+j,none⟩/\(W0.cell? ⟨b,o+j,none⟩).isSome)/\∀u∈news,u.oneCell'=true:=by
   rcases h with rfl|⟨b,o,h,hb,hac⟩
   .exact⟨0,0,[],fun h=>absurd h (by simp[PL.len]),by simp[PL.len],fun j h=>by simp[PL.len] at h,by simp⟩
   obtain⟨news,T,U,V⟩:=kU l b o hac;exact⟨b,o,news,fun _=>⟨Option.some.inj h,hb⟩,T,U,V⟩
  have z:∀(w':World),Below W0.1.size W0 w'->∀j u,news[j]?=some u->∃x:Addr,some adr=some x/\w'.cell? (x.add j)=some u:=by
   intro w' O j u y;have E:j<l.len*6:=by rw[<-C];exact(ZB.1 y).1
   obtain⟨rfl,hb⟩:=q oq;refine⟨_,rfl,?_⟩;rw[show(⟨b,o,none⟩:Addr).add j=⟨b,o+j,none⟩ from by unfold Addr.add;split<;>simp_all];rw[O.cell (p:=⟨b,o+j,none⟩) hb,<-(A j E).1,y]
  have f:=fun w=>Zfd (some adr) l.len cap w
  simp only[Option.isNone] at f;go_enter func196,ntmps196;go_wp2_with (refine lite.YP _ (by rfl) _ _ _ (by rfl) w.1.size 111 Y _ 6 72 underlying109 G H I J rfl oq (.slice (some ⟨w.1.size,0,none⟩) 0 0) 0 [] (by rfl) (Zha w w _ _ (Zc _)) (some adr) l.len cap news (by rfl) C (z _ ((R.alloc (by have:=R.size;omega) _))) M (by unfold maxLen;omega) oq (by simp) ?_;intro Z w4 m F X);go_ret;have hb4:Below w.1.size w w4:=Below.grown ((Zg w.1.size w).alloc (Zc _) (.cells #[] 111)) F (by simp) (fun k e=>by simp[Value.ownBlock] at e;omega);refine⟨⟨b,o,Z,rfl,fun h=>by rw[(q h).1],?_⟩,hb4⟩;rw[ZE,ZN] at m;rcases m.2 with ⟨rfl,h0⟩|⟨g,cap1,cur,rfl,hbg,hg,hnc,hcm,hcs,htk⟩
  .exact⟨none,0,by rw[h0],oq,fun h=>oq⟩
  refine⟨_,cap1,rfl,hnc,fun h=>⟨g,cur,rfl,hbg,hg,fun j E=>?_⟩⟩;rw[<-(A j E).1,<-htk,Yp E,Array.getElem?_toList]
theorem Zhg{cur:Array Value}{p:Nat}(z:p+6<=cur.size)(f g m q x y:Value) :
  ∃c':Array Value,c'=(((((cur.setIfInBounds p f).setIfInBounds (p+1) g).setIfInBounds (p+2) m).setIfInBounds (p+3) q).setIfInBounds (p+4) x).setIfInBounds (p+5) y /\
   (c'[p]?=some f/\c'[p+1]?=some g/\c'[p+2]?=some m/\c'[p+3]?=some q/\c'[p+4]?=some x/\c'[p+5]?=some y)/\∀j,j<p\/p+6<=j->c'[j]?=cur[j]?:=by
 have self:∀(c:Array Value)(i:Nat)(v:Value),i<c.size->(c.setIfInBounds i v)[i]?=some v:=fun c i v h=>by simp[Array.getElem?_setIfInBounds,h]
 have ne:∀(c:Array Value)(i j:Nat)(v:Value),i≠j->(c.setIfInBounds i v)[j]?=c[j]?:=fun c i j v h=>Array.getElem?_setIfInBounds_ne h
 refine⟨_,rfl,⟨?_,?_,?_,?_,?_,?_⟩,fun j hj=>?_⟩
 .rw[ne _ _ _ _ oq,ne _ _ _ _ oq,ne _ _ _ _ oq,ne _ _ _ _ oq,ne _ _ _ _ oq];exact self _ _ _ oq
 .rw[ne _ _ _ _ oq,ne _ _ _ _ oq,ne _ _ _ _ oq,ne _ _ _ _ oq];exact self _ _ _ (by simp only[Array.size_setIfInBounds];omega)
 .rw[ne _ _ _ _ oq,ne _ _ _ _ oq,ne _ _ _ _ oq];exact self _ _ _ (by simp only[Array.size_setIfInBounds];omega)
 .rw[ne _ _ _ _ oq,ne _ _ _ _ oq];exact self _ _ _ (by simp only[Array.size_setIfInBounds];omega)
 .rw[ne _ _ _ _ oq];exact self _ _ _ (by simp only[Array.size_setIfInBounds];omega)
 .exact self _ _ _ (by simp only[Array.size_setIfInBounds];omega)
 rw[ne _ _ _ _ oq,ne _ _ _ _ oq,ne _ _ _ _ oq,ne _ _ _ _ oq,ne _ _ _ _ oq,ne _ _ _ _ oq]
theorem Zhh{w:World}{g p:Nat}{cur:Array Value}{t:TypeId}(h:w.1[g]?=some (.cells cur t (0,0)))(I:p+6<=cur.size)(f m q v x y:Value) :
  (∃cur':Array Value,((((((w.setCell ⟨g,p,none⟩ f).setCell ⟨g,p+1,none⟩ m).setCell ⟨g,p+2,none⟩ q).setCell ⟨g,p+3,none⟩ v).setCell ⟨g,p+4,none⟩ x).setCell ⟨g,p+5,none⟩ y).1[g]?=some (.cells cur' t (0,0))/\(cur'[p]?=some f/\cur'[p+1]?=some m/\cur'[p+2]?=some q/\cur'[p+3]?=some v/\cur'[p+4]?=some x/\cur'[p+5]?=some y)/\∀j,j<p\/p+6<=j->cur'[j]?=cur[j]?) /\
   Upon g w ((((((w.setCell ⟨g,p,none⟩ f).setCell ⟨g,p+1,none⟩ m).setCell ⟨g,p+2,none⟩ q).setCell ⟨g,p+3,none⟩ v).setCell ⟨g,p+4,none⟩ x).setCell ⟨g,p+5,none⟩ y):=by
 have z:=Zj _ g p _ t f h;have A:=Zj _ g (p+1) _ t m z;have C:=Zj _ g (p+2) _ t q A;have D:=Zj _ g (p+3) _ t v C;have E:=Zj _ g (p+4) _ t x D;have F:=Zj _ g (p+5) _ t y E;obtain⟨J,rfl,G,H⟩:=Zhg I f m q v x y;exact⟨⟨_,F,G,H⟩,((((((Upon.refl g w).setAt (Or.inl rfl) _).setAt (Or.inl rfl) _).setAt (Or.inl rfl) _).setAt (Or.inl rfl) _).setAt (Or.inl rfl) _).setAt (Or.inl rfl) _⟩
def ElC(w:World)(P:Nat->Prop)(b p:Nat)(c:PE):Prop:=w.cell? ⟨b,p,none⟩=some (.int .i64 c.k)/\w.cell? ⟨b,p+1,none⟩=some (.string c.nm)/\w.cell? ⟨b,p+2,none⟩=some (.int .i64 c.n)/\w.cell? ⟨b,p+3,none⟩=some (.int .i64 c.d)/\w.cell? ⟨b,p+5,none⟩=some (.int .i64 c.a) /\
 ∃ad cap,w.cell? ⟨b,p+4,none⟩=some (.slice ad c.args.len cap)/\c.args.len<=cap/\SlA w P c.args ad
theorem qh{w:World}{P:Nat->Prop}{b:Nat}:∀(l:PL)(o:Nat),(∀j c,l.at j=some c->ElC w P b (o+j*6) c)->JU w P b l o
 | .nil,o,_=>trivial
 | .cons k nm n d args a tl,o,h=>by
  obtain⟨h0,h1,h2,h3,h5,ad,cap,h4,hc,hs⟩:=h 0 ⟨k,nm,n,d,args,a⟩ rfl;rw[Nat.zero_mul,Nat.add_zero] at h0 h1 h2 h3 h4 h5;refine⟨h0,h1,h2,h3,h5,⟨ad,cap,h4,hc,hs⟩,qh tl (o+6) (fun j c hj=>?_)⟩;have:=h (j+1) c hj
  rwa [show o+(j+1)*6=o+6+j*6 by omega] at this
def zR(e:PE)(ad:OA)(cap:Nat):Obj:=.cells #[.int .i64 e.k,.string e.nm,.int .i64 e.n,.int .i64 e.d,.slice ad e.args.len cap,.int .i64 e.a] 111 (0,0)
theorem V0{w:World}{b:Nat}{f g j m q v:Value}{t:TypeId}(h:w.1[b]?=some (.cells #[f,g,j,m,q,v] t (0,0))) :
  (w.cell? ⟨b,0,none⟩=some f/\w.cell? ⟨b,1,none⟩=some g/\w.cell? ⟨b,2,none⟩=some j/\w.cell? ⟨b,3,none⟩=some m/\w.cell? ⟨b,4,none⟩=some q/\w.cell? ⟨b,5,none⟩=some v)/\∀o,w.frozen? ⟨b,o,none⟩=false:=by
 refine⟨⟨?_,?_,?_,?_,?_,?_⟩,?_⟩
 all_goals first|(intro o;simp[World.frozen?,h])|simp[World.cell?,h]
theorem UP{w:World}{g:Nat}{cur:Array Value}{t:TypeId}(h:w.1[g]?=some (.cells cur t (0,0)))(j:Nat):w.cell? ⟨g,j,none⟩=cur[j]?:=Z8 w g j cur t (0,0) h
structure vt (W0 w:World) (e:PE) (b o:Nat) (ad':OA) (cap' i:Nat) (wr:World):Prop where
 le:i<=e.args.len
 b0:wr.1[w.1.size]?=some (zR e ad' cap')
 b1:wr.1[w.1.size+1]?=some (.cells #[.int .i64 0,.string ⟨#[]⟩,.int .i64 0,.int .i64 0,.slice none 0 0,.int .i64 0] 111 (0,0))
 row:0<e.args.len->∃g cur,ad'=some ⟨g,0,none⟩/\w.1.size+2<=g/\wr.1[g]?=some (.cells cur 111 (0,0))/\(∀j,i*6<=j->j<e.args.len*6->cur[j]?=W0.cell? ⟨b,o+j,none⟩)/\∀j c,j<i->e.args.at j=some c->ElC wr (fun k=>w.1.size+2<=k/\k≠g) g (j*6) c
 low:Below w.1.size w wr
theorem vt.next{W0 w:World}{e:PE}{b o g y i:Nat}{wr J:World}(h:vt W0 w e b o (some ⟨g,0,none⟩) y i wr)(hb:Below wr.1.size wr J)(aa:i<e.args.len){c:PE}(hc:e.args.at i=some c)(I:(W0.cell? ⟨b,o+(i*6+5),none⟩).isSome){q:OA}{f:Nat}(H:c.args.len<=f)(T:SlA J (fun k=>wr.1.size<=k) c.args q) :
  vt W0 w e b o (some ⟨g,0,none⟩) y (i+1) ((((((J.setCell ⟨g,i*6,none⟩ (.int .i64 c.k)).setCell ⟨g,i*6+1,none⟩ (.string c.nm)).setCell ⟨g,i*6+2,none⟩ (.int .i64 c.n)).setCell ⟨g,i*6+3,none⟩ (.int .i64 c.d)).setCell ⟨g,i*6+4,none⟩ (.slice q c.args.len f)).setCell ⟨g,i*6+5,none⟩ (.int .i64 c.a)):=by
 obtain⟨g',L,v,M,C,z,A⟩:=h.row oq;injection v with v
 injection v with v
 subst v;have R:=Zb C;have U:i*6+6<=L.size:=by
  have G:=z (i*6+5) oq oq;rw[<-G] at I;obtain⟨x,hx⟩:=Option.isSome_iff_exists.1 I;have:=(Zq.1 hx).1;omega
 obtain⟨⟨F,G,⟨k0,k1,k2,k3,k4,k5⟩,V⟩,E⟩:=Zhh (p:=i*6) ((hb.block g R).trans C) U (.int .i64 c.k) (.string c.nm) (.int .i64 c.n) (.int .i64 c.d) (.slice q c.args.len f) (.int .i64 c.a);have hs:=hb.size;obtain⟨W,hW⟩:∃W,((((((J.setCell ⟨g,i*6,none⟩ (.int .i64 c.k)).setCell ⟨g,i*6+1,none⟩ (.string c.nm)).setCell ⟨g,i*6+2,none⟩ (.int .i64 c.n)).setCell ⟨g,i*6+3,none⟩ (.int .i64 c.d)).setCell ⟨g,i*6+4,none⟩ (.slice q c.args.len f)).setCell ⟨g,i*6+5,none⟩ (.int .i64 c.a))=W:=⟨_,rfl⟩;rw[hW] at G E ⊢;have D:Same (fun k=>w.1.size+2<=k/\k≠g) wr W:=Same.upon (fun h=>h.2 rfl) E (Same.of_below hb (Same.refl _ _));refine⟨oq,(E.block _ oq oq).trans ((hb.block _ oq).trans h.b0),(E.block _ oq oq).trans ((hb.block _ oq).trans h.b1),fun _=>⟨g,F,rfl,M,G,fun j hj hj2=>?_,fun j c' hj hc'=>?_⟩,(h.low.trans (hb.mono h.low.size)).trans (E.below (by have:=h.low.size;omega) oq)⟩
 .rw[V j oq];exact z j oq hj2
 have m:=fun r=>UP G r
 by_cases O:j=i
 .subst O;rw[hc] at hc';injection hc' with hc'
  subst hc';refine⟨(m _).trans k0,(m _).trans k1,(m _).trans k2,(m _).trans k3,(m _).trans k5,q,f,(m _).trans k4,H,?_⟩;exact(T.mono (Q:=fun k=>w.1.size+2<=k/\k≠g) (fun k hk _=>oq)).keep (Same.upon (fun h=>h.2 rfl) E (Same.refl _ _))
 obtain⟨Y,Z,d2,d3,d5,X,cap,d4,dc,ds⟩:=A j c' oq hc';have hold:∀r,r<6->W.cell? ⟨g,j*6+r,none⟩=wr.cell? ⟨g,j*6+r,none⟩:=fun r hr=>by
  rw[m,V _ oq,UP C]
 exact⟨(hold 0 oq).trans Y,(hold 1 oq).trans Z,(hold 2 oq).trans d2,(hold 3 oq).trans d3,(hold 5 oq).trans d5,X,cap,(hold 4 oq).trans d4,dc,ds.keep D⟩
theorem vt.all{W0 w:World}{e:PE}{b o q:Nat}{m:OA}{wr:World}(h:vt W0 w e b o m q e.args.len wr):SlA wr (fun k=>w.1.size+2<=k) e.args m:=by
 by_cases A:e.args.len=0
 .refine .inl ?_
  cases hl:e.args with
  | nil=>rfl
  | cons=>rw[hl] at A;simp[PL.len] at A
 obtain⟨g,v,x,y,z,_,f⟩:=h.row oq;refine .inr ⟨g,0,x,⟨y,v,z⟩,qh _ _ (fun j c hj=>?_)⟩;rw[ZE];obtain⟨D,E,F,G,I,C,cap,H,J,L⟩:=f j c (K8 _ _ _ hj).1 hj;exact⟨D,E,F,G,I,C,cap,H,J,L.mono (fun k hk _=>hk.1)⟩
theorem vS{W0:World}:∀(M:Nat)(e:PE),e.args.sz<M->e.args.sz<=900->∀(w:World)(ad:OA)(cap:Nat),AE W0 e ad cap->Below W0.1.size W0 w ->
  Calls prog 146 #[ev e ad cap] w fun x w'=>(∃ad' cap',x=.returned (ev e ad' cap')/\e.args.len<=cap'/\SlA w' (fun k=>w.1.size<=k) e.args ad')/\Below w.1.size w w':=by
 intro M
 induction M with
 | zero=>intro e h;omega
 | succ M ih =>
  intro e hM bz w ad cap H hB;have bk:=QO e.args;have ar:=hid (fun(w':World) (hb:Below W0.1.size W0 w')=>vQ (w:=w') e.args ad cap H.args oq hb);have bc:=hid ih;have ap:=hid H;have HB:=hid hB;have am:=hB.size;have bv:=H.len;clear ih H hB;unfold ev;go_enter func146,ntmps146;go_wp2_with (go_at_call 196;refine(ar.o _ (HB.o.trans ((bq:Below w.1.size w _).mono am))).mono ?_;rintro x w1 ⟨⟨b,o,v,rfl,G,ad',cap',rfl,ak,V⟩,hb1⟩;have ab:w1.1[w.1.size]?=some (zR e ad cap):=(hb1.block _ (by simp;omega)).trans ((Za _ _ _ (by simp)).trans (Yx w _));have an:w1.1[w.1.size+1]?=some (.cells #[.int .i64 0,.string ⟨#[]⟩,.int .i64 0,.int .i64 0,.slice none 0 0,.int .i64 0] 111 (0,0)):=(hb1.block _ (by simp)).trans (by simpa using Yx (w.alloc _) _);obtain⟨⟨x0,x1,x2,x3,x4,x5⟩,xf⟩:=V0 ab);have bg:w.1.size+2<=w1.1.size:=by have:=hb1.size;simpa using this
  have T:Below w.1.size w w1:=bq;obtain⟨W1,Y⟩:=ez (w1.setCell ⟨w.1.size,4,none⟩ (.slice ad' e.args.len cap'));have ac:=hid (show vt W0 w e b o ad' cap' 0 W1 from by
   rw[<-Y];have U:∀k,k≠w.1.size->(w1.setCell ⟨w.1.size,4,none⟩ (.slice ad' e.args.len cap')).1[k]?=w1.1[k]?:=fun k U=>Zr _ _ _ _ U
   refine⟨Zk _,?_,(U _ oq).trans an,fun h=>?_,T.setCell (p:=⟨w.1.size,4,none⟩) (Zc _) _⟩
   .unfold zR;have:=Zj _ w.1.size 4 _ _ (.slice ad' e.args.len cap') ab;simpa only [sA,sB,sC] using this
   obtain⟨g,ag,h1,h2,h3,h4⟩:=V h;have hg:w.1.size+2<=g:=by simpa using h2
   exact⟨g,ag,h1,hg,(U g oq).trans h3,fun j _ hj=>h4 j hj,fun j c hj=>absurd hj (Ym _)⟩)
  have ao:=hid G;have ae:=hid ak;rw[Y];clear Y ab an x0 x1 x2 x3 x4 x5 xf bg T hb1 V G;go_loopw [12] (fun v wr=>Hid (∃i:Nat,v=.int .i64 (i:Int)/\vt W0 w e b o ad' cap' i wr)) (fun i _=>e.args.len-(intOf i).toNat)
  case atStart=>exact⟨0,rfl,ac.o⟩
  obtain⟨i,rfl,hC⟩:=hrel.o;clear hrel ac;have C:=hid hC;obtain⟨⟨x0,x1,x2,x3,x4,x5⟩,xf⟩:=V0 hC.b0;have bf:=hC.low.size;clear hC;by_cases J:i<e.args.len
  .have bs:(i:Int)<(e.args.len:Int):=oq;obtain⟨g,ag,rfl,hg,I,A,_⟩:=C.o.row oq;have G:=ao.o oq;subst G;obtain⟨c,hc,_⟩:=PL.at_some _ _ J;obtain⟨b',o',Z,bo,aj⟩:∃b' o',some (⟨b,o,none⟩:Addr)=some ⟨b',o',none⟩/\b'<W0.1.size/\AC W0 e.args b' o':=by
    rcases ap.o.args with h0|h0
    .rw[h0] at J;simp[PL.len] at J
    exact h0
   injection Z with Z
   injection Z with hbo1 hbo2
   subst hbo1;subst hbo2;obtain⟨D,y,y0,y1,y2,y3,y4,y5,R⟩:=kT _ aj i c hc;have m:∀r,r<6->wr.cell? ⟨g,i*6+r,none⟩=W0.cell? ⟨b,o+i*6+r,none⟩:=fun r hr=>by
    rw[UP I,A _ oq oq,Nat.add_assoc]
   have e0:=(m 0 oq).trans y0;have e1:=(m 1 oq).trans y1;have e2:=(m 2 oq).trans y2;have e3:=(m 3 oq).trans y3;have e4:=(m 4 oq).trans y4;have e5:=(m 5 oq).trans y5;rw[Nat.add_zero] at e0;have bl:=(K8 _ _ _ hc).2;have af:=hid (fun(w':World) (hb:Below W0.1.size W0 w')=>bc.o c oq oq w' D y R hb);unfold ev at af;have br:¬g=w.1.size:=oq;have bi:¬g=w.1.size+1:=oq;have q:=Zb I;have aq:=hid hc;have au:=hid (show(W0.cell? ⟨b,o+(i*6+5),none⟩).isSome from by rw[<-Nat.add_assoc,y5];rfl);have bb:=hid I;have bm:=hid A;clear I A aj hc m y0 y1 y2 y3 y4 y5 R;go_wp2;obtain⟨O,F⟩:=ez (wr.alloc (zR c D y));have E:Below wr.1.size wr O:=by rw[<-F];exact bq
   have aa:O.1[wr.1.size]?=some (zR c D y):=by rw[<-F];exact Yx wr _
   have bx:wr.1.size<O.1.size:=Zb aa
   change Code.wp _ _ _ _ (wr.alloc (zR c D y))
   rw[F];have ah:=(E.block _ oq).trans C.o.b0;have av:=hid e0;have aw:=hid e1;have ax:=hid e2;have ay:=hid e3;have az:=hid e4;have ba:=hid e5;clear x0 x1 x2 x3 x4 x5 xf e0 e1 e2 e3 e4 e5 F;obtain⟨⟨x0,x1,x2,x3,x4,x5⟩,xf⟩:=V0 ah;obtain⟨⟨z0,z1,z2,z3,z4,z5⟩,zf⟩:=V0 aa;have HB5:=hid E;have bd:=hid (show Below W0.1.size W0 O from HB.o.trans ((C.o.low.trans (E.mono bf)).mono am));clear E aa ah;have bt:w.1.size<O.1.size:=oq;have bu:g<O.1.size:=oq;have bj:(0:Int)<=(i:Int):=oq;go_region_law (go_simp;first|(go_at_call 146;refine(af.o _ bd.o.drew).mono ?_;rintro x w6 ⟨⟨bn,bh,rfl,z,X⟩,hb6⟩;have L:=hid (Zh z (X.mono (Q:=fun k=>wr.1.size<=k) (fun k U _=>Zm (show wr.1.size<=O.1.size by omega) U)));clear z X;have f:Below wr.1.size wr w6:=HB5.o.drew.trans (hb6.mono (by show wr.1.size<=O.1.size;omega));have ai:=(f.block _ oq).trans C.o.b0;obtain⟨⟨r0,r1,r2,r3,r4,r5⟩,rf⟩:=V0 ai;have al:=(f.block g q).trans bb.o;have s0:=(f.cell (p:=⟨g,i*6,none⟩) q).trans av.o;have s1:=(f.cell (p:=⟨g,i*6+1,none⟩) q).trans aw.o;have s2:=(f.cell (p:=⟨g,i*6+2,none⟩) q).trans ax.o;have s3:=(f.cell (p:=⟨g,i*6+3,none⟩) q).trans ay.o;have s4:=(f.cell (p:=⟨g,i*6+4,none⟩) q).trans az.o;have s5:=(f.cell (p:=⟨g,i*6+5,none⟩) q).trans ba.o;have bp:∀r,w6.frozen? ⟨g,r,none⟩=false:=(fun r=>by simp[World.frozen?,al]);have HB6:=hid f;clear hb6 f ai al))
   all_goals
    go_wp2;have hX:=C.o.next HB6.o J aq.o au.o L.o.1 L.o.2;exact⟨hid ⟨i+1,by go_num,hX⟩,by simp[intOf];omega⟩
  have bw:=C.o.le;obtain⟨⟨q0,q1,q2,q3,q4,q5⟩,qf⟩:=V0 C.o.b1;go_wp2;have be:i=e.args.len:=oq;subst be;refine Zl (v:=ev e ad' cap') ?_ rfl ⟨⟨ad',cap',rfl,ae.o,?_⟩,?_⟩
  .simp only[results,results146,ev];go_simp
  .refine SlA.mono (SlA.keep C.o.all ?_) (fun k U _=>Zm (ZY _ 2) U);exact(((((Same.refl _ _).setCell (by show ¬_<=_;omega) _).setCell (by show ¬_<=_;omega) _).setCell (by show ¬_<=_;omega) _).setCell (by show ¬_<=_;omega) _).setCell (by show ¬_<=_;omega) _ |>.setCell (by show ¬_<=_;omega) _
  exact(((((C.o.low.setCell (p:=⟨w.1.size+1,0,none⟩) (ZY _ 1) _).setCell (p:=⟨w.1.size+1,1,none⟩) (ZY _ 1) _).setCell (p:=⟨w.1.size+1,2,none⟩) (ZY _ 1) _).setCell (p:=⟨w.1.size+1,3,none⟩) (ZY _ 1) _).setCell (p:=⟨w.1.size+1,4,none⟩) (ZY _ 1) _).setCell (p:=⟨w.1.size+1,5,none⟩) (ZY _ 1) _
def Y4(e:TypeId)(w w':World):Prop:=∀(k:Nat)(cur:Array Value)(t:TypeId)(fz:Nat × Nat),w.1[k]?=some (Obj.cells cur t fz)->t≠e->w'.1[k]?=some (Obj.cells cur t fz)
theorem Y4.trans{e:TypeId}{a b c:World}(h:Y4 e a b)(k:Y4 e b c):Y4 e a c:=fun i cur t fz hi ht=>k i cur t fz (h i cur t fz hi ht) ht
theorem Y4.of_below{e:TypeId}{a b:World}(h:Below a.1.size a b):Y4 e a b:=fun i cur t fz hi _=>(h.block i (Zb hi)).trans hi
theorem Y4.of_grown{e:TypeId}{a b:World}{base size n:Nat}{v:Value}{xs:List Value}(m:a.ownsRow base e size v n xs)(j:a.grownBy b v.ownBlock):Y4 e a b:=by
 intro i f t q hi ht;refine(j.block i (Zb hi) (fun he=>?_)).trans hi;rcases m.2 with ⟨rfl,_⟩|⟨g,cap,cur',rfl,hb,hgg,_⟩
 .cases he
 simp[Value.ownBlock] at he;subst he;rw[hi] at hgg;injection hgg with hgg
 injection hgg with h1 h2 h3
 exact ht h2
theorem Y4.set{e:TypeId}(w:World)(b o:Nat){cur:Array Value}{j:Nat × Nat}(h:w.1[b]?=some (.cells cur e j))(u:Value):Y4 e w (w.setCell ⟨b,o,none⟩ u):=by
 intro i g t m hi ht;refine(Zr _ _ _ _ (fun f=>?_)).trans hi;have f:i=b:=f;subst f;rw[h] at hi;injection hi with hi
 injection hi with h1 h2 h3
 exact ht h2.symm
theorem J8{w w':World}{base:Nat}{e j:TypeId}{size n:Nat}{v:Value}{xs:List Value}(h:w.ownsRow base e size v n xs)(m:Y4 j w w')(f:e≠j):w'.ownsRow base e size v n xs:=by
 refine⟨h.1,?_⟩;rcases h.2 with h0|⟨g,cap,cur,hv,hb,hg,rest⟩
 .exact .inl h0
 exact .inr ⟨g,cap,cur,hv,hb,m g cur e _ hg f,rest⟩
theorem ZeD(w:World)(base:Nat)(e:TypeId)(size:Nat):w.ownsRow base e size (.slice none 0 0) 0 []:=Yg _ _ _ _
def XB{α:Type}(Pe:World->List Value->α->Prop)(e:TypeId)(size:Nat)(w:World)(base:Nat)(v:Value)(l:List α):Prop :=
 ∃cs:List (List Value),cs.length=l.length/\w.ownsRow base e size v l.length cs.flatten/\(∀c∈cs,c.length=size)/\∀i (h:i<l.length) (h':i<cs.length),Pe w cs[i] l[i]
section
variable {α:Type} {Pe:World->List Value->α->Prop} {e:TypeId} {size:Nat} {w w':World} {base:Nat} {v:Value} {l:List α}
theorem XB.nil:XB Pe e size w base (.slice none 0 0) ([]:List α):=⟨[],rfl,ZeD _ _ _ _,by simp,fun i h=>by simp at h⟩
theorem XB.own(h:XB Pe e size w base v l):∃xs,w.ownsRow base e size v l.length xs:=by
 obtain⟨g,_,f,_⟩:=h;exact⟨_,f⟩
theorem XB.form(h:XB Pe e size w base v l):∃ad cap,v=.slice ad l.length cap:=by
 obtain⟨g,f⟩:=h.own;exact YC f
theorem XB.stays(h:XB Pe e size w base v l){g:TypeId}(C:Y4 g w w')(f:e≠g)(A:∀c x,Pe w c x->Pe w' c x):XB Pe e size w' base v l:=by
 obtain⟨j,m,q,y,z⟩:=h;exact⟨j,m,J8 q C f,y,fun i hi hi'=>A _ _ (z i hi hi')⟩
theorem yX(f:List (List Value))(c:List Value):(f++[c]).flatten=f.flatten++c:=by simp
theorem XB.snoc{f:List (List Value)}(m:f.length=l.length)(v:∀c∈f,c.length=size)(y:∀i (h:i<l.length) (C:i<f.length),Pe w' f[i] l[i]){c:List Value}(z:c.length=size){x:α}(A:Pe w' c x){v':Value}
  (g:w'.ownsRow base e size v' (l.length+1) (f.flatten++c)):XB Pe e size w' base v' (l++[x]):=by
 refine⟨f++[c],by simp[m],by rw[yX,Zy];exact g,fun d hd=>?_,fun i hi hi'=>?_⟩
 .rcases List.mem_append.1 hd with h|h
  .exact v d h
  rw[List.mem_singleton.1 h];exact z
 by_cases q:i<l.length
 .rw[List.getElem_append_left q,List.getElem_append_left oq];exact y i q oq
 have j:i=l.length:=by simp at hi;omega
 subst j;rw[List.getElem_append_right (Zc _),List.getElem_append_right oq];simp only[m,Nat.sub_self,List.getElem_cons_zero];exact A
theorem UL{wr w3 w4:World}{n:Nat}{xs:List Value}{ob:Obj}(f:wr.ownsRow base e size v n xs)(hb:Below wr.1.size wr w3)(j:(w3.alloc ob).grownBy w4 v.ownBlock):Y4 e wr w4/\(∀B,B<=base->B<=wr.1.size->Below B wr w4)/\wr.1.size<=w4.1.size:=by
 have g:Below wr.1.size wr (w3.alloc ob):=hb.alloc hb.size _;refine⟨(Y4.of_below g).trans (Y4.of_grown (own_below f g) j),fun B hB hB2=>?_,Zm g.size j.size⟩;exact(g.mono hB2).grown j (Zm hB2 g.size) (fun k ek=>Zm hB (QA f k ek))
theorem Jn{wr w4:World}{cs:List (List Value)}(h1:cs.length=l.length)(h2:wr.ownsRow base e size v l.length cs.flatten)(h3:∀c∈cs,c.length=size)(h4:∀i (h:i<l.length) (h':i<cs.length),Pe wr cs[i] l[i])(hP:∀c x,Pe wr c x->Pe w4 c x)
  {c:List Value}(hc:c.length=size){x:α}(hx:Pe w4 c x){v':Value}(hown4:w4.ownsRow base e size v' (l.length+1) (cs.flatten++c)):XB Pe e size w4 base v' (l++[x]) :=
 XB.snoc h1 h3 (fun i hi hi'=>hP _ _ (h4 i hi hi')) hc hx hown4
end
def Gr(base:Nat)(w:World)(c:List Value)(x:Nat × List Op3):Prop:=∃v,c=[.int .i64 (x.1:Int),v]/\w.ownsRow base 183 3 v x.2.length (Qy x.2)
def xQ(w:World)(c:List Value)(x:Int × Int):Prop:=c=[.int .i64 x.1,.int .i64 x.2]
structure TK where
 node:Int
 per:Int
 ph:Int
 args:List (Nat × List Op3)
def JD(base:Nat)(w:World)(c:List Value)(x:TK):Prop:=∃v,c=[.int .i64 x.node,.int .i64 x.per,.int .i64 x.ph,v]/\XB (Gr base) 92 2 w base v x.args
structure TL where
 per:Int
 ph:Int
 src:Nat
 ops:List Op3
 dl:Int
def JX(base:Nat)(w:World)(c:List Value)(x:TL):Prop:=∃v,c=[.int .i64 x.per,.int .i64 x.ph,.int .i64 (x.src:Int),v,.int .i64 x.dl]/\w.ownsRow base 183 3 v x.ops.length (Qy x.ops)
theorem JU.stays{P:Nat->Prop}{w w':World}{y:TypeId}(A:Y4 y w w')(v:111≠y):∀(l:PL)(b o:Nat),OkB w P b->JU w P b l o->JU w' P b l o:=by
 intro l
 induction l with
 | nil=>intro b o _ _;trivial
 | cons k nm n d args a tl ih1 ih2 =>
  intro b o hb h;have x:=hb;obtain⟨_,D,q⟩:=hb;have j:∀o,w'.cell? ⟨b,o,none⟩=w.cell? ⟨b,o,none⟩:=fun o=>Zn (w:=w) (a:=⟨b,o,none⟩) ((A b D _ _ q v).trans q.symm)
  obtain⟨E,F,G,H,J,⟨C,cap,I,m,hd⟩,ht⟩:=h;refine⟨(j _).trans E,(j _).trans F,(j _).trans G,(j _).trans H,(j _).trans J,⟨C,cap,(j _).trans I,m,?_⟩,ih2 b _ x ht⟩;rcases hd with hd|⟨b',o',e,hb',hd⟩
  .exact .inl hd
  obtain⟨z,g,f⟩:=hb';exact .inr ⟨b',o',e,⟨z,g,A b' g _ _ f v⟩,ih1 b' o' ⟨z,g,f⟩ hd⟩
theorem SlA.stays{P:Nat->Prop}{w w':World}{j:TypeId}{args:PL}{g:OA}(h:SlA w P args g)(m:Y4 j w w')(f:111≠j):SlA w' P args g:=by
 rcases h with h|⟨b,o,e,⟨hp,cs,hcs⟩,h⟩
 .exact .inl h
 exact .inr ⟨b,o,e,⟨hp,cs,m b cs _ _ hcs f⟩,h.stays m f _ _ _ ⟨hp,cs,hcs⟩⟩
def G1(w:World)(c:List Value)(x:ND):Prop:=∃pa pc ad cap,c=[.string x.nm,.slice pa x.ps.length pc,.int .i64 x.bud,.int .i64 x.body.k,.string x.body.nm,.int .i64 x.body.n,.int .i64 x.body.d,.slice ad x.body.args.len cap,.int .i64 x.body.a,.int .i64 x.a] /\
 w.ownsRow 0 9 1 (.slice pa x.ps.length pc) x.ps.length (x.ps.map Value.string)/\x.body.args.len<=cap/\SlA w (fun _=>True) x.body.args ad
theorem G1.stays{w w':World}{f:TypeId}{c:List Value}{x:ND}(h:G1 w c x)(g:Y4 f w w')(m:9≠f)(q:111≠f):G1 w' c x:=by
 obtain⟨C,D,j,cap,y,A,z,v⟩:=h;exact⟨C,D,j,cap,y,J8 A g m,z,v.stays g q⟩
section
variable {base:Nat} {w w':World} {e':TypeId}
theorem Gr.stays{c:List Value}{x:Nat × List Op3}(h:Gr base w c x)(m:Y4 e' w w')(f:183≠e'):Gr base w' c x:=by
 obtain⟨v,g,j⟩:=h;exact⟨v,g,J8 j m f⟩
theorem JD.stays{c:List Value}{x:TK}(h:JD base w c x)(j:Y4 e' w w')(g:183≠e')(f:92≠e'):JD base w' c x:=by
 obtain⟨v,m,q⟩:=h;exact⟨v,m,q.stays j f (fun c x h=>h.stays j g)⟩
theorem JX.stays{c:List Value}{x:TL}(h:JX base w c x)(m:Y4 e' w w')(f:183≠e'):JX base w' c x:=by
 obtain⟨v,g,j⟩:=h;exact⟨v,g,J8 j m f⟩
theorem XB.mono{α:Type}{Pe f:World->List Value->α->Prop}{e:TypeId}{size:Nat}{base base':Nat}{v:Value}{l:List α}(h:XB Pe e size w base v l)(hb:base'<=base)(z:∀c x,Pe w c x->f w c x):XB f e size w base' v l:=by
 obtain⟨g,j,m,q,y⟩:=h;exact⟨g,j,Xq m hb,q,fun i hi hi'=>z _ _ (y i hi hi')⟩
theorem Gr.mono{base':Nat}{c:List Value}{x:Nat × List Op3}(h:Gr base w c x)(hb:base'<=base):Gr base' w c x:=by
 obtain⟨v,f,g⟩:=h;exact⟨v,f,Xq g hb⟩
theorem JD.mono{base':Nat}{c:List Value}{x:TK}(h:JD base w c x)(hb:base'<=base):JD base' w c x:=by
 obtain⟨v,f,g⟩:=h;exact⟨v,f,g.mono hb (fun c x h=>h.mono hb)⟩
end
theorem uq:(prog.info? 92).map (fun i=>(i.zero,i.size,i.bytes))=some (some (.agg #[.int .i64 0,.slice none 0 0]),2,32):=by kernel_rfl
theorem qG:(prog.info? 53).map (fun i=>(i.zero,i.size,i.bytes))=some (some (.agg #[.int .i64 0,.int .i64 0,.int .i64 0,.slice none 0 0]),4,48):=by kernel_rfl
theorem qH:(prog.info? 94).map (fun i=>(i.zero,i.size,i.bytes))=some (some (.agg #[.int .i64 0,.int .i64 0,.int .i64 0,.slice none 0 0,.int .i64 0]),5,56):=by kernel_rfl
theorem ut:(prog.info? 50).map (fun i=>(i.zero,i.size,i.bytes))=some (some (.agg #[.int .i64 0,.int .i64 0]),2,16):=by kernel_rfl
theorem qF:(prog.info? 113).map (fun i=>(i.zero,i.size,i.bytes))=some (some (.agg #[.string ⟨#[]⟩,.slice none 0 0,.int .i64 0,.int .i64 0,.string ⟨#[]⟩,.int .i64 0,.int .i64 0,.slice none 0 0,.int .i64 0,.int .i64 0]),10,128):=by kernel_rfl
