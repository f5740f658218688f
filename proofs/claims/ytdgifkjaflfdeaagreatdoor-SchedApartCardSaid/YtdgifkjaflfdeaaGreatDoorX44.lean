/- Parts of the proof. -/
import Derived.Test.YtdgifkjaflfdeaaGreatDoorX32
import Derived.Test.YtdgifkjaflfdeaaGreatDoorX38
import Derived.Test.YtdgifkjaflfdeaaGreatDoorX43
set_option linter.all false
set_option maxRecDepth 100000
set_option maxHeartbeats 16000000
namespace Go.Proofs.YtdgifkjaflfdeaaGreatDoor.syn
open Tryz
open Go.RowKit
variable {f:FD}{x:Ending}{w':World}
theorem gJ:∀(l:List (Int × Int))(h k:Int),1<=h->(∀c∈l,1<=c.1)->clock.YQ h l=some k->h ∣ k/\∀c∈l,c.1 ∣ k
 | [],h,k,_,_,e=>by injection e with e;subst e;exact⟨⟨1,oq⟩,fun c hc=>by cases hc⟩
 | c::l,h,k,h1,hl,e=>by
  rw[clock.YQ] at e;by_cases ho:2000<clock.VH h c.1
  .rw[Z3 ho] at e;cases e
  rw[Z2 ho] at e;have hc:=hl c List.mem_cons_self;have hs:=arith.ZbU h1 hc;obtain⟨h2,h3⟩:=gJ l _ k (qL h1 hc) (fun c hc=>hl c (List.mem_cons_of_mem _ hc)) e;refine⟨Int.dvd_trans hs.1 h2,fun d hd=>?_⟩;rcases ZS.1 hd with rfl|hd
  .exact Int.dvd_trans hs.2 h2
  exact h3 d hd
theorem vm{f:FD}(h:RdG f):∀(l:List (AD × Int))(s t:Int × Int),(∀x∈l,x∈XR f)->(0<=s.1/\s.1<=4000/\1<=s.2/\s.2<=2000)->JQ f l s=some t->s.2 ∣ t.2/\∀x∈l,∀c∈Y3 f x,c.1 ∣ t.2
 | [],s,t,_,_,e=>by injection e with e;subst e;exact⟨⟨1,oq⟩,fun x hx=>by cases hx⟩
 | x::l,s,t,hl,hs,e=>by
  have e2:(stepW f s x).bind (JQ f l)=some t:=e
  cases hh:stepW f s x with
  | none=>rw[hh] at e2;cases e2
  | some u =>
   rw[hh] at e2;have hx:=hl x List.mem_cons_self;have hb:=j8 h hx hs hh;obtain⟨h1,h2⟩:=vm h l u t (fun y hy=>hl y (List.mem_cons_of_mem _ hy)) hb e2;have hst:s.2 ∣ u.2/\∀c∈Y3 f x,c.1 ∣ u.2:=by
    unfold stepW at hh
    cases hk:clock.YQ 1 (Y3 f x++[(s.2,0)]) with
    | none=>rw[hk] at hh;cases hh
    | some k =>
     rw[hk] at hh;simp only at hh;by_cases j:4000<max s.1 (Qj (Y3 f x)+x.2)
     .rw[Z3 j] at hh;cases hh
     rw[Z2 j] at hh;injection hh with hh
     subst hh;obtain⟨_,g⟩:=gJ _ 1 k oq (fun c hc=>by
      rcases List.mem_append.1 hc with hc|hc
      .exact(Eo h hx c hc).1
      rw[List.mem_singleton.1 hc];exact hs.2.2.1) hk
     exact⟨g (s.2,0) (List.mem_append_right _ (List.mem_singleton.2 rfl)),fun c hc=>g c (List.mem_append_left _ hc)⟩
   refine⟨Int.dvd_trans hst.1 h1,fun y hy c hc=>?_⟩;rcases ZS.1 hy with rfl|hy
   .exact Int.dvd_trans (hst.2 c hc) h1
   exact h2 y hy c hc
theorem K7(c:Int × Int)(f:List (Int × Int × Int))(h:(clock.YL c.1 c.2 f).2.2=0):∀i,i<=f.length->clock.YL (XT c f i).1 (XT c f i).2 (f.drop i)=clock.YL c.1 c.2 f
 | 0,_=>by simp[XT]
 | i+1,hi=>by
  have h1:=K7 c f h i oq;have hd:f.drop i=f.getD i (0,0,0)::f.drop (i+1):=by
   rw[ZO oq,Zf,Ze oq];rfl
  rw[hd] at h1;obtain⟨o,j⟩:=ez (f.getD i (0,0,0));obtain⟨x,m⟩:=ez (XT c f i);have q:XT c f (i+1)=nxt x o:=by rw[XT,m,j]
  rw[m,j,clock.YL] at h1;rw[q];unfold nxt;simp only at h1 ⊢;by_cases g:(clock.YD x.1 x.2 o.1 o.2.1 o.2.2).2.2=0
  .rw[Z3 g] at h1;exact h1
  rw[Z2 g] at h1;rw[<-h1] at h;exact absurd h g
theorem Zb7{a:AD}{p ph:Int}(h:XM f a p ph=true):∃c∈Y3 f (a,0),c.1=p:=by
 unfold XM at h
 cases hs:XV f a.src with
 | none=>rw[hs] at h;cases h
 | some s =>
  rw[hs] at h;simp only[ZC,Yl] at h;obtain⟨_,g,j,_⟩:=h;unfold clock.V9 at g j;by_cases q:clock.YG s.1 s.2=true
  .rw[Z3 q] at g j;have m:=K7 s a.ops g a.ops.length (Zc _);rw[Yq,clock.YL] at m;refine⟨XT s a.ops a.ops.length,?_,?_⟩
   .unfold Y3 ckQ;simp only[hs,Ya];exact Yf.2 ⟨a.ops.length,List.mem_range.2 oq,rfl⟩
   rw[<-j,<-m]
  rw[Z2 q] at g;simp at g
theorem uM(h:Xd f=true){t:Nat}(ht:t<f.tasks.length):(tkO f t).args≠[]:=by
 unfold Xd at h;simp only[ZC,List.all_eq_true,Yl] at h;obtain⟨_,_,j,_⟩:=h;have g:=j f.tasks[t] (Zi ht);rw[JP ht] at g;by_cases v:(tkO f t).node<0\/(f.nods.length:Int)<=(tkO f t).node
 .rw[V8 v] at g;cases g
 have m:(tkO f t).node.toNat<f.nods.length:=oq;have q:(tkO f t).node=((tkO f t).node.toNat:Int):=oq;rw[KX m q] at g;simp only[ZC,List.all_eq_true,Yl] at g;exact fun e=>g.1 (by rw[e];rfl)
theorem ZdG(h:GWd f){S H:Int}(e:JQ f (XR f) (0,1)=some (S,H)):0<=S/\S<=4000/\1<=H/\H<=2000/\Zbv f H:=by
 have q:=(Zfe h).1;have g:=QS h.1;have hb:=xK q (XR f) (0,1) (S,H) (fun x hx=>hx) (by decide) e;have hd:=(vm q (XR f) (0,1) (S,H) (fun x hx=>hx) (by decide) e).2;have A:SgF f:=⟨g.clk,g.node⟩;refine⟨hb.1,hb.2.1,hb.2.2.1,hb.2.2.2,fun t ht=>?_,fun t ht=>?_,fun t ht=>?_⟩
 .obtain⟨_,_,_,_,v,y⟩:=A.bud ht;exact⟨v,y⟩
 .have:=g.clk t ht;unfold QR;rw[ZR];exact⟨this.1,this.2.1⟩
 obtain⟨a,m⟩:=List.exists_mem_of_ne_nil _ (uM h.1 ht);obtain⟨c,z,j⟩:=Zb7 (g.fits t ht a m);unfold QR;rw[ZR,<-j];refine hd (a,0) ?_ c z;unfold XR rdT;refine List.mem_append_left _ (List.mem_flatMap.2 ⟨f.tasks[t],Zi ht,Yf.2 ⟨a,?_,rfl⟩⟩);rw[JP ht];exact m
def JbA(f:FD)(x:Ending)(w':World):Prop:=(∃e,e≠0/\x=.returned (.tuple #[.slice none 0 0,.int .i64 e]))\/∃ja cj d,x=.returned (.tuple #[.slice ja d.size cj,.int .i64 0])/\JR w' ja d/\xR f d/\d.size<=1000000
theorem ZfU{u:Int}(h:Gx f u x w')(q:0<=u/\u<=20000)(m:Xd f=true):JbA f x w':=by
 unfold Gx at h;rw[Z3 ⟨m,q⟩] at h
 cases ho:ofP f with
 | none=>rw[ho] at h;exact .inl ⟨6,by decide,h⟩
 | some l =>
  rw[ho] at h;simp only at h;split at h
  .exact .inl ⟨8,by decide,h⟩
  obtain⟨B,z,v,d,y,j⟩:=h;have g:=ZfV j q.2 (QS m).few;exact .inr ⟨z,v,d,y,j.jobs,g.1,g.2⟩
def MkA(f:FD)(x:Ending)(w':World):Prop:=(∃e,e≠0/\x=.returned (.tuple #[.agg #[.int .i64 0,.int .i64 0,.slice none 0 0],.int .i64 e])) \/
 ∃S H v P,x=.returned (.tuple #[.agg #[.int .i64 S,.int .i64 H,v],.int .i64 0])/\ZdS w' v P/\Zfy f S H P/\P.length<=1000000/\S<=4000/\H<=2000/\Zbv f H
theorem Za1{w:World}(f:FD)(C an A D:OA)(F G I cl:Nat)(Z:FAP w f C an A D)(hr:GWd f) :
  Calls prog 23 #[fv f C an A D F G I cl] w fun x w'=>MkA f x w'/\Below w.1.size w w':=by
 have hG:=Zfe hr;have ae:=QS hr.1;have U:=hid (show SgF f from ⟨ae.clk,ae.node⟩);have g:=hid (fun(W:World) (hW:Below w.1.size w W)=>kF (w:=W) f C an A D F G I cl (Z.below hW) hG.1 (fun L h2=>Zc8 ((Z.below hW).below h2) hr.1) (fun L h2 i hi=>Zgq L f C an A D F G I cl ((Z.below hW).below h2) i hi));have ag:=hid (fun(W:World) (hW:Below w.1.size w W) (u:Int) (hu:0<=u/\u<=20000)=>(Zaf (w:=W) f C an A D F G I cl (Z.below hW) u).mono (fun x w' h=>(⟨ZfU h.1 hu hr.1,h.2⟩:JbA f x w'/\Below W.1.size W w')));have ak:=hid (fun(W:World) (hW:Below w.1.size w W) (d:Array YH) (ja:OA) (cj:Nat) (h1:JR W ja d) (h2:xR f d) (h3:d.size<=1000000)=>Za0 (w:=W) f C an A D F G I cl (Z.below hW) U.o d ja cj h1 h2 h3);have aj:=hid (fun(W:World) (hW:Below w.1.size w W)=>jO (w:=W) f C an A D F G I cl (Z.below hW) U.o);have V:=hid (fun S H e=>ZdG (f:=f) hr (S:=S) (H:=H) e);clear Z hG ae U hr;unfold fv at *;obtain⟨L,j⟩:∃L,(w.alloc (.cells #[.slice C f.ins.length F,.slice an f.nods.length G,.slice A f.tasks.length I,.slice D f.tells.length cl] 35)).alloc (.cells #[.int .i64 0,.int .i64 0,.slice none 0 0] 68)=L:=⟨_,rfl⟩;have hB:Below w.1.size w L:=by rw[<-j];exact bq
 have J:L.1[w.1.size]?=some (.cells #[.slice C f.ins.length F,.slice an f.nods.length G,.slice A f.tasks.length I,.slice D f.tells.length cl] 35 (0,0)):=by rw[<-j];exact(Za _ _ _ (by simp)).trans (Yx w _)
 have ac:L.1[w.1.size+1]?=some (.cells #[.int .i64 0,.int .i64 0,.slice none 0 0] 68 (0,0)):=by
  rw[<-j];simpa using Yx (w.alloc (.cells #[.slice C f.ins.length F,.slice an f.nods.length G,.slice A f.tasks.length I,.slice D f.tells.length cl] 35)) (.cells #[.int .i64 0,.int .i64 0,.slice none 0 0] 68)
 have aa:=Zb J;have z:=Zb ac;obtain⟨⟨x0,x1,x2,x3⟩,xf⟩:=Yy J;have HB:=hid hB;have R:=hid J;have E:=hid ac;clear hB J ac
 cases hw:JQ f (XR f) (0,1) with
 | none =>
  rw[hw] at g;unfold kD at g;simp only at g;clear hw ag ak aj V;go_enter func23,ntmps23;go_upto_region 1 with fail
  first|rw[j]|skip
  clear j;go_wp2_with (go_at_call 43;refine(g.o _ HB.o).mono ?_;rintro y w3 ⟨rfl,hb3⟩;have HB3:=hid hb3;obtain⟨⟨y0,y1,y2⟩,yf⟩:=Y9 ((hb3.block _ z).trans E.o);clear hb3);exact Zl (v:=.tuple #[.agg #[.int .i64 0,.int .i64 0,.slice none 0 0],.int .i64 8]) (by simp only[results,results23];go_simp) rfl ⟨.inl ⟨8,by decide,rfl⟩,bq⟩
 | some st =>
  obtain⟨S,H⟩:=st;rw[hw] at g;unfold kD at g;simp only at g;obtain⟨aq,ar,am,ao,ay⟩:=V.o S H hw;have ba:=hid ay;have bk:IntKind.i64.wrap (3*H)=3*H:=ZL _ oq;have bl:IntKind.i64.wrap (S+3*H)=S+3*H:=ZL _ oq;have bm:IntKind.i64.wrap (S+H)=S+H:=ZL _ oq;clear hw ay V;go_enter func23,ntmps23;go_upto_region 1 with fail
  first|rw[j]|skip
  clear j;go_wp2_with (first
   | (go_at_call 43;refine(g.o _ HB.o).mono ?_;rintro y w3 ⟨rfl,hb3⟩;have HB3:=hid hb3;clear x0 x1 x2 x3 xf hb3;obtain⟨⟨x0,x1,x2,x3⟩,xf⟩:=Yy ((HB3.o.block _ aa).trans R.o))
   | (go_at_call 18;refine(ag.o _ (HB.o.trans (HB3.o.mono HB.o.size)) _ ⟨oq,oq⟩).mono ?_;rintro y w4 ⟨(⟨e4,av,rfl⟩|⟨ja,cj,d,rfl,hJ,ap,hd⟩),hb4⟩<;>(have HB4:=hid (HB3.o.trans (hb4.mono HB3.o.size));clear x0 x1 x2 x3 xf hb4;(obtain⟨⟨x0,x1,x2,x3⟩,xf⟩:=Yy ((HB4.o.block _ aa).trans R.o));(obtain⟨⟨y0,y1,y2⟩,yf⟩:=Y9 ((HB4.o.block _ z).trans E.o));first|(have aw:(e4 != 0)=true:=bne_iff_ne.2 av)|(have O:=hid (Zh hJ (Zh ap hd));clear hJ ap)))
   | (go_at_call 55;refine(ak.o _ (HB.o.trans (HB4.o.mono HB.o.size)) d ja cj O.o.1 O.o.2.1 O.o.2.2).mono ?_;rintro y w5 ⟨⟨a5,c5,l,b5,rfl,ax,Y,bb,M⟩,hb5⟩;have HB5:=hid (HB4.o.trans (hb5.mono HB4.o.size));have T:=hid ax;have m:=hid M;clear x0 x1 x2 x3 xf y0 y1 y2 yf hb5 ax M)
   | (go_at_call 57;refine(zI (w:=w5) l a5 l.length c5 (S+H) rfl T.o Y.1 Y.2).mono ?_;rintro y w6 ⟨rfl,hb6⟩;have HS6:=hid hb6;have HB6:=hid (HB5.o.trans (hb6.mono HB5.o.size));clear hb6;have bi:=gP (u:=S+H) (l:=l))
   | (go_at_call 56;refine(uR (w:=w6) (JA (S+H) l) a5 _ _ rfl (gW (S+H) (T.o.below Va HS6.o)) oq).mono ?_;rintro y w7 ⟨⟨v7,rfl,ab⟩,X⟩;have HS7:=hid X;have HB7:=hid (HB6.o.trans (X.mono HB6.o.size));have ah:=hid ab;have be:=HS6.o.size;have bf:=HS7.o.size;obtain⟨a7,c7,rfl⟩:=YC ab;have bh:w.1.size+1<w7.1.size:=Zd z HB7.o.size;have bd:¬w.1.size+1=w7.1.size:=oq;have bg:w.1.size<w7.1.size:=oq;have bc:¬w.1.size=w7.1.size:=oq;clear X ab;(obtain⟨⟨x0,x1,x2,x3⟩,xf⟩:=Yy ((HB7.o.block _ aa).trans R.o));(obtain⟨⟨y0,y1,y2⟩,yf⟩:=Y9 ((HB7.o.block _ z).trans E.o));cases b5)
   | (go_at_call 58;refine(aj.o _ bq (JA (S+H) l) a7 _ c7 rfl (xk (own_below ah.o bq) rfl) oq (fun x hx=>(m.o trivial).2 x (U2 x hx).1) l a5 _ c5 rfl (T.o.below Va bq) bb Y S H ⟨aq,ar⟩ ⟨am,ao⟩).mono ?_;rintro y w8 ⟨⟨c8,rfl,au⟩,q⟩;have HS8:=hid q;have af:=hid au;have az:=hid (own_below (ah.o.alloc _) q);have bj:=q.size;clear au x0 x1 x2 x3 xf y0 y1 y2 yf;(obtain⟨⟨p0,p1,p2⟩,pf⟩:=Y9 ((q.block w7.1.size (by simp)).trans (Yx w7 _)));(obtain⟨⟨y0,y1,y2⟩,yf⟩:=Y9 ((q.block (w.1.size+1) (by have:=HB7.o.size;simp;omega)).trans ((Za _ _ _ (by have:=HB7.o.size;omega)).trans ((HB7.o.block _ z).trans E.o))));clear q;cases c8))
  all_goals first
   | (have hq:=aw;exact Zl (v:=.tuple #[.agg #[.int .i64 0,.int .i64 0,.slice none 0 0],.int .i64 e4]) (by simp only[results,results23];go_simp) rfl ⟨.inl ⟨e4,av,rfl⟩,bq⟩)
   | (have hq:=af.o trivial;exact Zl (v:=.tuple #[.agg #[.int .i64 S,.int .i64 H,.slice a7 (JA (S+H) l).length c7],.int .i64 0]) (by simp only[results,results23];go_simp) rfl ⟨.inr ⟨S,H,_,JA (S+H) l,rfl,xm (Xc (Xc (Xc az.o (by have:=HB6.o.size;omega) _) (by have:=HB6.o.size;omega) _) (by have:=HB6.o.size;omega) _),Zc1 (m.o trivial).1 (m.o trivial).2 aq am hq,oq,ar,ao,ba.o⟩,bq⟩)
   | (have hq:=af.o;exact Zl (v:=.tuple #[.agg #[.int .i64 0,.int .i64 0,.slice none 0 0],.int .i64 9]) (by simp only[results,results23];go_simp) rfl ⟨.inl ⟨9,by decide,rfl⟩,bq⟩)
   | (have hq:Hid (false=true->_):=m;exact Zl (v:=.tuple #[.agg #[.int .i64 0,.int .i64 0,.slice none 0 0],.int .i64 9]) (by simp only[results,results23];go_simp) rfl ⟨.inl ⟨9,by decide,rfl⟩,bq⟩)
   | skip
def MdS(x:Ending)(w':World):Prop:=x=.returned (.tuple #[.agg #[.slice none 0 0,.slice none 0 0,.slice none 0 0,.slice none 0 0],.bool false]) \/
 ∃(f:FD)(ai an aT al:OA)(ci cn ct cl:Nat),x=.returned (.tuple #[fv f ai an aT al ci cn ct cl,.bool true])/\FAP w' f ai an aT al/\GWd f
theorem ZfZ{p:PG}{base:Nat}(h:kN p base x w'):MdS x w':=by
 rcases h with h|⟨v,env,hx,hmk,hr,hN,hC,h30,hfew⟩
 .exact .inl h
 have f:=hr.ok;have F:=GH f hN hC;have g:∀o∈p.outs,∃j,fI p o.fl=some j/\j<p.flows.length:=fun o ho=>by
  obtain⟨i,hi,q⟩:=Yn ho;have:=hN.outs i hi;rw[q] at this;exact uc this
 obtain⟨z,an,y,A,C,D,E,cl,G,m⟩:=Zep hmk f F h30 g;exact .inr ⟨zr p env,z,an,y,A,C,D,E,cl,by rw[hx,G],m,ux hr hN hC h30 hfew,m.lens.1,m.lens.2.2.2,fun t ht=>(m.args t ht).1⟩
