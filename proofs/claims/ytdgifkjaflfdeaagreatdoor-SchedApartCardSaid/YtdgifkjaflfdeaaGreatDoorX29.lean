/- Parts of the proof. -/
import Derived.Test.YtdgifkjaflfdeaaGreatDoorX28
set_option linter.all false
set_option maxRecDepth 100000
set_option maxHeartbeats 16000000
namespace Go.Proofs.YtdgifkjaflfdeaaGreatDoor.syn
open Tryz
open Go.RowKit
variable {w:World}{b T mb:Nat}{f g j:Value}{t:TypeId}
theorem Zck:(prog.info? 44).map (fun i=>(i.zero,i.size,i.bytes))=some (some (.slice none 0 0),1,24):=by kernel_rfl
theorem YA{o:Obj}{k:Nat}(h:k=w.1.size):(w.alloc o).1[k]?=some o:=by subst h;exact Yx w o
theorem cells3(h:w.1[b]?=some (.cells #[f,g,j] t (0,0))):(w.cell? ⟨b,0,none⟩=some f/\w.cell? ⟨b,1,none⟩=some g/\w.cell? ⟨b,2,none⟩=some j)/\∀o,w.frozen? ⟨b,o,none⟩=false:=by
 refine⟨⟨?_,?_,?_⟩,?_⟩
 all_goals first|(intro o;simp[World.frozen?,h])|simp[World.cell?,h]
theorem ZeE{w w':World}{base:Nat}{e:TypeId}{size n:Nat}{v:Value}{xs:List Value}(h:w.ownsRow base e size v n xs)(f:∀k,base<=k->k<w.1.size->w'.1[k]?=w.1[k]?):w'.ownsRow base e size v n xs:=by
 refine⟨h.1,?_⟩;rcases h.2 with h0|⟨g,cap,cur,hv,hb,hg,rest⟩
 .exact .inl h0
 exact .inr ⟨g,cap,cur,hv,hb,(f g hb (Zb hg)).trans hg,rest⟩
theorem vG(l:Nat)(K:Act->World->Prop)(Q:Exit->Act->World->Prop):Exit.inBlock l (Exit.then K Q)=Exit.then K (Exit.inBlock l (Exit.then K Q)):=by
 funext e a w
 cases e<;>rfl
theorem VJ(z:Value)(n:Nat):madeCells #[z] n=(List.replicate n z).toArray:=by rw[<-toList_madeCells_one]
theorem vk{W:World}{T m mb g:Nat}(lt:mb<W.1.size/\g<W.1.size/\m<W.1.size)(ne:mb≠g/\mb≠m/\g≠m)
  (box:W.1[m]?=some (.cells #[.slice none 0 0,.slice (some ⟨mb,0,none⟩) T T,.slice (some ⟨g,0,none⟩) T T] 203 (0,0)))
  (f:W.1[mb]?=some (.cells (madeCells #[.int .i64 0] T) 3 (0,0)))(j:W.1[g]?=some (.cells (madeCells #[.slice none 0 0] T) 44 (0,0))) :
  WaM W W T m mb g (.slice none 0 0) (List.replicate T (.slice none 0 0)) ⟨[],List.replicate T 0,List.replicate T []⟩:=by
 refine⟨But.refl _ _,lt,ne,box,?_,?_,?_,⟨by simp,by simp,by simp,?_⟩⟩
 .rw[VJ] at f;rw[f];simp[ints]
 .rw[VJ] at j;exact j
 .have:=Fam.nils W W.1.size 3 (T+1);simpa [List.replicate_succ,ints] using this
 intro r q x v;have:=List.eq_of_mem_replicate q;subst this
 cases v
theorem bZ290{p:Prop}(h:p:=by first|exact YA (by simp)|exact(Za _ _ _ (by simp)).trans (YA (by simp))|exact(Za _ _ _ (by simp;omega)).trans ((Za _ _ _ (by simp)).trans (YA (by simp)))|exact(Za _ _ _ (by simp;omega)).trans (YA (by simp))|exact(Za _ _ _ (by simp)).trans ((Za _ _ _ (by simp)).trans (YA (by simp)))):p:=h
theorem EP(f:FD)(ai an aT al:OA)(ci cn ct cl:Nat)(hf:FAP w f ai an aT al) :
  Calls prog 104 #[fv f ai an aT al ci cn ct cl] w fun x w'=>∃W2 wb mb rb vq vs,x=.returned (.pointer (some ⟨wb,0,none⟩))/\WaM W2 w' f.tasks.length wb mb rb vq vs (Xv f f.tasks.length)/\Below w.1.size w W2/\w.1.size<=mb/\w.1.size<=rb/\w.1.size<=wb:=by
 have bi:=hf.lens;have ay:=hid (fun(W:World) (hW:Below w.1.size w W) (i:Nat) (d:TD) (hd:f.tasks[i]?=some d)=>show Calls prog 173 #[fv f ai an aT al ci cn ct cl,.int .i64 (i:Int)] W fun x w'=>(∃v,x=.returned v/\QV w' W.1.size v (Y6 f d))/\Below W.1.size W w' by obtain⟨hi,rfl⟩:=ZB.1 hd;exact Zas (w:=W) f ai an aT al ci cn ct cl (hf.below hW) i hi);have az:=hid (fun(n:Nat) (d:TD) (hd:f.tasks[n]?=some d)=>show(Y6 f d).length<=1000 from by have M:=QZ ((zt f d).mergeSort (fun x y=>decide (x<=y)));rw[List.length_mergeSort] at M;have h2:=U3 f d.args;have h3:=(hf.args d (Yb hd)).1;unfold Y6;unfold zt at *;omega);obtain⟨T,hT⟩:=ez f.tasks.length;have dx:T<=1000:=oq;have ce:=fun W=>run_make_row' (P:=prog) 44 3 (.int .i64 0) 8 underlying44 JK rfl .i64 .i64 T oq oq W
 have cf:=fun W=>run_make_row' (P:=prog) 124 44 (.slice none 0 0) 24 underlying124 Zck rfl .i64 .i64 T oq oq W
 have HT:=hid hT;unfold fv at *;rw[hT] at ay;rw[hT];clear hf bi hT;go_enter func104,ntmps104;go_upto_region 1 with fail
 obtain⟨L,ae⟩:=ez (w.alloc (.cells #[.slice ai f.ins.length ci,.slice an f.nods.length cn,.slice aT T ct,.slice al f.tells.length cl] 35));rw[ae];have bv:Below w.1.size w L:=by rw[<-ae];exact bq
 have af:L.1[w.1.size]?=some (.cells #[.slice ai f.ins.length ci,.slice an f.nods.length cn,.slice aT T ct,.slice al f.tells.length cl] 35 (0,0)):=by rw[<-ae];exact Yx w _
 obtain⟨⟨x0,x1,x2,x3⟩,xf⟩:=Yy af;have bh:=Zb af;have HB1:=hid bv;have bp:=hid af;clear ae bv af;go_cut [3] (fun s3 W=>Hid (∃wb mb rb,s3=.pointer (some ⟨wb,0,none⟩)/\WaM W W T wb mb rb (.slice none 0 0) (List.replicate T (.slice none 0 0)) ⟨[],List.replicate T 0,List.replicate T []⟩/\Below L.1.size L W/\L.1.size<=mb/\L.1.size<=rb/\L.1.size<=wb))
 case first =>
  go_region
  all_goals (go_wp2_with fail;go_meet)
  .refine hid ⟨L.1.size+1+1,L.1.size,L.1.size+1,by simp,vk ⟨oq,oq,oq⟩ ⟨oq,oq,oq⟩ bZ290 bZ290 bZ290,bq,oq,oq,oq⟩
  refine hid ⟨L.1.size+1+1,L.1.size+1,L.1.size,by simp,vk ⟨oq,oq,oq⟩ ⟨oq,oq,oq⟩ bZ290 bZ290 bZ290,bq,oq,oq,oq⟩
 obtain⟨wb,mb,rb,rfl,A,ac,dc,dh,dk⟩:=hcut.o;clear hcut ce cf;obtain⟨W2,rfl⟩:=ey wc;have eb:=A.lt;have D:=hid A;have HB2:=hid ac;have ba:=hid ((ac.block _ bh).trans bp.o);obtain⟨⟨z0,z1,z2,z3⟩,zf⟩:=Yy ba.o;have ec:=ac.size;clear A ac x0 x1 x2 x3 xf;go_wp2;go_loopw [21] (fun s21 wr=>Hid (∃n vq vs,s21=.int .i64 ((n:Nat):Int)/\n<=T/\WaM W2 wr T wb mb rb vq vs (Xv f n))) (fun s _=>T-(intOf s).toNat)
 case atStart =>
  refine⟨0,.slice none 0 0,List.replicate T (.slice none 0 0),rfl,Zk _,?_⟩;have:=D.o;unfold Xv;rw[HT.o];exact this
 clear D z0 z1 z2 z3 zf;obtain⟨wo,rfl⟩:=ey wr;obtain⟨n,vq,vs,rfl,hn,A⟩:=hrel.o;clear hrel;have ee:=A.size;have hold:∀k,k<W2.1.size->k≠mb->k≠rb->k≠wb->wo.1[k]?=W2.1[k]?:=fun k hk M h2 h3=>A.but.block k hk (fun e=>by
  rcases e with e|e|e
  .exact M e
  .exact h2 e
  exact h3 e)
 have hq:=(hold _ oq oq oq oq).trans ba.o;obtain⟨⟨z0,z1,z2,z3⟩,zf⟩:=Yy hq;have cw:=hid hq;have ax:Below w.1.size w wo:=(HB1.o.trans (HB2.o.mono oq)).trans (A.but.below oq (fun k e=>oq));have am:=hid ax;have D:=hid A;have dp:w.1.size<wo.1.size:=oq;clear hq hold ax;by_cases X:n<T
 .have de:(n:Int)<(T:Int):=oq;have dd:(0:Int)<=(n:Int):=oq;obtain⟨d,hd⟩:∃d,f.tasks[n]?=some d:=⟨_,Ze (by rw[HT.o];exact X)⟩;have Z:=(Jl f n).trans (Ju hd);have HS:=hid Z;have HH:=hid (ay.o wo am.o n d hd);have cc:=az.o n d hd;have aa:=hid (qz (f:=f) (t:=d));have ck:=KM f n;have bj:=xg f az.o n;obtain⟨s,hs⟩:=ez (Xv f n);rw[hs] at D HS ck bj;have cx:=hid bj;clear bj;obtain⟨h,hh⟩:=ez (Y6 f d);rw[hh] at HH HS aa cc;rw[HT.o] at aa;clear A hs hh Z hd;go_upto_region 6 with (go_at_call 173;refine HH.o.mono ?_;rintro y w5 ⟨⟨v5,rfl,ag⟩,hb5⟩;obtain⟨a5,c5,rfl⟩:=YC ag)
  try simp only at ag
  have HB5:=hid hb5;have br:=hid ag;have ed:=hb5.size;have J:=D.o.turn hb5;obtain⟨⟨b0,b1,b2⟩,bf⟩:=cells3 J.box;obtain⟨m0,m1⟩:=J.manyAt X;have ao:=hid J;clear hb5 ag J;go_wp2;have bt:=hid (show ∀(i:Nat)(v:Value)(k:Nat),vs[i]?=some v->v.ownBlock=some k->k<wo.1.size\/w5.1.size<=k from fun i v k hv hk=>.inl (D.o.fam.block (i:=i+1) (by rw[List.getElem?_cons_succ];exact hv) k hk).2);go_loopw [37] (fun s37 C=>Hid (∃j G,s37=.int .i64 ((j:Nat):Int)/\j<=h.length/\WaM W2 C T wb mb rb vq G ⟨s.q,s.many.set n (h.length:Int),(h.take j).foldl (addR n) s.rd⟩/\(∀k,wo.1.size<=k->k<w5.1.size->C.1[k]?=w5.1[k]?)/\(∀(i:Nat)(v:Value)(k:Nat),G[i]?=some v->v.ownBlock=some k->k<wo.1.size\/w5.1.size<=k)/\w5.1.size<=C.1.size)) (fun s _=>h.length-(intOf s).toNat)
  case atStart=>exact⟨0,vs,rfl,Zk _,ao.o.setMany n (h.length:Int),fun k M h2=>Zr _ _ _ _ (by show k≠mb;omega),bt.o,by simp⟩
  clear b0 b1 b2 bf m0 m1 z0 z1 z2 z3 zf bt;obtain⟨C,rfl⟩:=ey wr;obtain⟨j,G,rfl,hj,F,V,aj,dj⟩:=hrel.o;clear hrel;have ah:QV C wo.1.size (.slice a5 h.length c5) h:=ZeE br.o V;obtain⟨⟨b0,b1,b2⟩,bf⟩:=cells3 F.box;have z:=hid F;have bo:=hid V;have ab:=hid aj;have dn:=F.size;by_cases E:j<h.length
  .obtain⟨g5,c6,e5,dy,dz,ca,_⟩:=ah.form (by intro e;rw[e] at E;simp at E);injection e5 with e5 _ e6
   subst e5;subst e6;have cb:=ca j E;obtain⟨x0,x1⟩:=aa.o (h.getD j 0) (J4 E);obtain⟨i,hi⟩:∃i:Nat,h.getD j 0=(i:Int):=⟨(h.getD j 0).toNat,oq⟩;rw[hi] at cb x1;have bg:i<T:=oq;obtain⟨v,hv,r0,r1,R⟩:=F.rdAt bg;have bl:(h.take (j+1)).foldl (addR n) s.rd=addR n ((h.take j).foldl (addR n) s.rd) (i:Int):=by
    rw[Zw E,List.foldl_append];simp only[List.foldl_cons,List.foldl_nil];rw[<-hi,Zf,Ze E];rfl
   obtain⟨rr,bk⟩:=ez ((h.take j).foldl (addR n) s.rd);rw[bk] at z bl R;simp only at R;have di:(rr.getD i []).length<=2000000:=by
    have M:=(RB.adds (t:=n) (h.take j) _ _ cx.o).getD i;rw[bk,Yc] at M;omega
   obtain⟨H,bm⟩:=ez (rr.getD i []);rw[bm] at R di;have bu:=hid bm;have bs:=hid bl;have HV:=hid hv;have bb:=hid R;obtain⟨av,cv,rfl⟩:=YC R;have cz:(0:Int)<=(j:Int):=oq;have da:(j:Int)<(h.length:Int):=oq;have cy:(0:Int)<=(i:Int):=oq;have ds:rb<C.1.size:=oq;have dr:¬rb=C.1.size:=oq;have dv:wb<C.1.size:=oq;have du:¬wb=C.1.size:=oq;obtain⟨i0,aq,ar,au,aw⟩:=info_parts JK;have HI:=hid (Zh aq (Zh ar (Zh au aw)));clear aq ar au aw F V aj ah ca bl bk bm hv R hi;go_upto_region 10 with fail
   rw[vG];go_cut [] (fun W=>Hid (∃w4 U m,W=w4.setCell ⟨rb,i,none⟩ (.slice (some ⟨U,0,none⟩) (H.length+1) m)/\w4.ownsRow W2.1.size 3 1 (.slice (some ⟨U,0,none⟩) (H.length+1) m) (H.length+1) (ints H++[.int .i64 (n:Int)])/\But (fun k=>(Value.slice av H.length cv).ownBlock=some k) C w4/\((Value.slice av H.length cv).ownBlock=some U\/C.1.size<=U)))
   case first =>
    clear ay az HT HB1 bp HB2 ba cw am D HS HH aa HB5 br ao z bo ab bu bs HV cb x0 x1 ck cc cz da E cy;go_region_law (refine step_append_lies _ (by rfl) _ _ _ (by rfl) W2.1.size 3 i0 _ 1 8 underlying44 HI.o.1 HI.o.2.1 HI.o.2.2.1 HI.o.2.2.2 rfl oq (.slice av H.length cv) H.length (ints H) (by rfl) (own_below bb.o bq) ⟨C.1.size,0,none⟩ 1 1 [.int .i64 (n:Int)] (by rfl) (by rfl) (World.news_of_block (ZA _ _)) (by simp[Value.oneCell']) oq (by unfold maxLen;omega) oq (by simp;omega) (C.1.size+1) (by simp) ?_;intro U m w4 Y I ap dq;have g:But (fun k=>(Value.slice av H.length cv).ownBlock=some k) C w4:=(But.of_below (bq:Below C.1.size C _)).then (But.of_grown I) (fun i _ e=>e);have cg:¬(Value.slice av H.length cv).ownBlock=some rb:=(fun e=>by have:=(Vt bb.o rb e).1;omega);have c4:=(Zn (a:=⟨rb,i,none⟩) (g.block rb oq cg)).trans r0;have f4:=(Z7 (a:=⟨rb,i,none⟩) (g.block rb oq cg)).trans r1;have dg:¬(Value.slice av H.length cv).ownBlock=some wb:=(fun e=>by have:=(Vt bb.o wb e).1;omega);have dw:=(Zn (a:=⟨wb,2,none⟩) (g.block wb oq dg)).trans b2;have cq:=hid Y;have bn:=hid g;have cp:=hid (show(Value.slice av H.length cv).ownBlock=some U\/C.1.size<=U from ap.elim .inl (fun e=>.inr oq));clear Y I ap g)
    all_goals (go_wp2_with fail;go_meet;exact hid ⟨w4,U,m,rfl,cq.o,bn.o,cp.o⟩)
   obtain⟨w4,U,m,ak,ch,g,be⟩:=hcut.o;clear hcut;obtain⟨Wn,rfl⟩:=ey wc;have dt:=g.size;have bd:=z.o.app (t:=n) bg X HV.o g (by simp only;rw[bu.o];exact ch) (fun k hk=>by cases hk;exact be);rw[<-ak] at bd;have co:=hid bd;have bw:∀k,wo.1.size<=k->k<w5.1.size->Wn.1[k]?=w5.1[k]?:=by
    intro k M h2;rw[ak];refine(Zr _ _ _ _ (by show k≠rb;omega)).trans ((g.block k oq (fun e=>?_)).trans (bo.o k M h2));rcases ab.o i _ k HV.o e with h3|h3<;>omega
   have bz:∀(i2:Nat)(v:Value)(k:Nat),(G.set i (.slice (some ⟨U,0,none⟩) (H.length+1) m))[i2]?=some v->v.ownBlock=some k->k<wo.1.size\/w5.1.size<=k:=by
    intro i2 v k M h2;by_cases cd:i2=i
    .subst cd;rw[List.getElem?_set_self (by rw[z.o.vlen];exact bg)] at M
     cases M
     cases h2
     rcases be with h3|h3
     .exact ab.o i2 _ _ HV.o h3
     exact .inr (Zm dj h3)
    rw[List.getElem?_set_ne (fun e=>cd e.symm)] at M;exact ab.o i2 v k M h2
   have bx:w5.1.size<=Wn.1.size:=by rw[ak];simp;omega
   have bc:=hid (Zh bw (Zh bz bx));clear ak ch g be bd bw bz bx;go_wp2;refine⟨hid ⟨j+1,G.set i (.slice (some ⟨U,0,none⟩) (H.length+1) m),by go_num,E,by rw[bs.o];exact co.o,bc.o⟩,by simp[intOf];omega⟩
  have db:j=h.length:=oq;subst db;rw[ZT] at z;have ea:¬(h.length:Int)<(h.length:Int):=oq;by_cases O:h=[]
  .have hN:Xv f (n+1)=⟨Jd s.q (n:Int),s.many.set n (h.length:Int),h.foldl (addR n) s.rd⟩:=by have:=HS.o;rw[Z3 O] at this;exact this
   have HN:=hid hN;have bh:h.length=0:=by rw[O];rfl
   have cu:=hid (zW (w:=C) z.o.qm z.o.box (show s.q.length<=10000 by omega) (n:Int));have cm:=hid (V6 (l:=s.q) (x:=(n:Int)) z.o.ok.q ⟨dd,de⟩);have he:((h.length:Int) == 0)=true:=by rw[beq_iff_eq];omega
   clear F V aj ah hN O;go_wp2_with (go_at_call 116;refine cu.o.mono ?_;rintro y w7 ⟨rfl,cj⟩;have cr:=hid cj;clear cj);obtain⟨dm,dl,_,_⟩:=z.o.queue cr.o cm.o;exact⟨hid ⟨n+1,dm,G,by go_num,X,by rw[HN.o];exact dl⟩,by simp[intOf];omega⟩
  have hN:Xv f (n+1)=⟨s.q,s.many.set n (h.length:Int),h.foldl (addR n) s.rd⟩:=by have:=HS.o;rw[Z2 O] at this;exact this
  have HN:=hid hN;have bh:0<h.length:=by
   cases h with
   | nil=>exact absurd rfl O
   | cons _ _=>simp
  have he:((h.length:Int) == 0)=false:=by rw[ZZ];omega
  clear F V aj ah hN O;go_wp2;exact⟨hid ⟨n+1,vq,G,by go_num,X,by rw[HN.o];exact z.o⟩,by simp[intOf];omega⟩
 have df:n=T:=oq;subst df;clear A;go_wp2;go_ret;exact⟨W2,wb,mb,rb,vq,vs,rfl,D.o,HB1.o.trans (HB2.o.mono HB1.o.size),Zm HB1.o.size dc,Zm HB1.o.size dh,Zm HB1.o.size dk⟩
theorem GC(h:w.1[b]?=some (.cells #[f,g,j] t (0,0))):(w.cell? ⟨b,0,none⟩=some f/\w.cell? ⟨b,1,none⟩=some g/\w.cell? ⟨b,2,none⟩=some j)/\∀o,w.frozen? ⟨b,o,none⟩=false:=by
 refine⟨⟨?_,?_,?_⟩,?_⟩
 all_goals first|(intro o;simp[World.frozen?,h])|simp[World.cell?,h]
theorem eQ(x:Int)(w:World):(Instr.typeAssert (.iface 3 (.int .i64 x)) 20 3 false).run prog w=.ok (.int .i64 x) w:=by kernel_rfl
theorem jC{W2 w:World}{T J mb rb:Nat}{V:Value}{vs:List Value}{s:WS}(hw:WaM W2 w T J mb rb V vs s)(hq:s.q≠[])(bx:s.q.length<=5000){c:Nat}(hc:c<=1000000000000)(am:MB c s.many)(ax:RB 2000000 s.rd)(an:muW s<=5000) :
  Calls prog 106 #[.pointer (some ⟨J,0,none⟩)] w fun x w'=>x=.returned (.int .i64 (YO s).1)/\∃vq',WaM W2 w' T J mb rb vq' vs (YO s).2/\(∀k,vq'.ownBlock=some k->V.ownBlock=some k\/w.1.size<=k)/\But (fun k=>k=mb\/k=J\/V.ownBlock=some k) w w':=by
 have aw:=E0 hq hw.ok.q;obtain⟨i,hi⟩:∃i:Nat,(QB s.q).1=(i:Int):=⟨(QB s.q).1.toNat,oq⟩;have al:i<T:=oq;have ac:=hid (Zce (w:=w) hw.qm hw.box hq oq);have aq:YO s=((i:Int),(s.rd.getD i []).foldl YJ ⟨(QB s.q).2,s.many,s.rd⟩):=by unfold YO;rw[hi,ZR]
 have bl:=jJ s.q;have X:=hid aw.2;have h0:0<s.q.length:=by cases M:s.q with
  | nil=>exact absurd M hq
  | cons _ _=>simp
 rw[aq];rw[hi] at ac;simp only;obtain⟨I,M⟩:=ez ((QB s.q).2);rw[M] at ac X bl ⊢;have ao:muW ⟨I,s.many,s.rd⟩<=5000:=by unfold muW at an ⊢;simp only at an ⊢;omega
 have HW:=hid hw;have bd:=hid am;have cb:=eQ (i:Int);have bm:=ax.getD i;have i0:(0:Int)<=(i:Int):=oq;have i1:(i:Int)<(T:Int):=oq;obtain⟨A,O⟩:=ez (s.rd.getD i []);rw[O] at bm ⊢;clear hw aw aq am ax hq M hi;go_enter func106,ntmps106;go_upto_region 2 with (go_at_call 117;refine ac.o.mono ?_;rintro y w1 ⟨rfl,ar⟩;have be:=hid ar;clear ar)
 obtain⟨bp,U,ba,Y⟩:=HW.o.queue be.o X.o;have C:=hid (Zh ba (show But (fun k=>k=mb\/k=J\/V.ownBlock=some k) w w1 from Y.imp (fun k _ e=>.inr e)));clear ba Y;obtain⟨⟨b0,b1,b2⟩,bf⟩:=GC U.box;obtain⟨v,hv,r0,r1,z⟩:=U.rdAt al;simp only at z;rw[O] at z;obtain⟨av,cv,rfl⟩:=YC z;have bi:=hid U;have HV:=hid hv;clear U hv z;go_wp2;go_loopw [20] (fun s20 wr=>Hid (∃j H,s20=.int .i64 ((j:Nat):Int)/\j<=A.length/\WaM W2 wr T J mb rb H vs ((A.take j).foldl YJ ⟨I,s.many,s.rd⟩)/\(∀k,H.ownBlock=some k->V.ownBlock=some k\/w.1.size<=k)/\But (fun k=>k=mb\/k=J\/V.ownBlock=some k) w wr)) (fun s _=>A.length-(intOf s).toNat)
 case atStart=>exact⟨0,bp,rfl,Zk _,bi.o,C.o⟩
 clear b0 b1 b2 bf r0 r1 C;obtain⟨wi,rfl⟩:=ey wr;obtain⟨j,H,rfl,hj,f,D,Z⟩:=hrel.o;clear hrel;have C:=hid (Zh D Z);clear D Z;by_cases g:j<A.length
 .have R:(A.take (j+1)).foldl YJ ⟨I,s.many,s.rd⟩=YJ ((A.take j).foldl YJ ⟨I,s.many,s.rd⟩) (A.getD j 0):=by
   rw[Zw g,List.foldl_append];simp only[List.foldl_cons,List.foldl_nil];rw[Zf,Ze g];rfl
  have L:=MB.reads (A.take j) c ⟨I,s.many,s.rd⟩ bd.o;have ap:=Zm (Zg5 _) (Zm (E1 (A.take j) ⟨I,s.many,s.rd⟩) ao);have G:=E2 (A.take j) ⟨I,s.many,s.rd⟩;rw[Yc] at L;obtain⟨s2,az⟩:=ez ((A.take j).foldl YJ ⟨I,s.many,s.rd⟩);rw[az] at f R L ap G;simp only at G;have af:=Zc4 f.ok i;rw[G,O] at af;obtain⟨x0,x1⟩:=af _ (J4 g);obtain⟨k,hk⟩:∃k:Nat,A.getD j 0=(k:Int):=⟨(A.getD j 0).toNat,oq⟩;rw[hk] at R x1;have ag:k<T:=oq;obtain⟨v2,D,r0,r1,z⟩:=f.rdAt al;rw[HV.o] at D;injection D with D
  subst D;rw[G,O] at z;obtain⟨gv,bs,ev,_,_,ak,_⟩:=z.form (by intro e;rw[e] at g;simp at g);injection ev with ev _ ev2
  subst ev;subst ev2;have c0:=ak j g;rw[hk] at c0;obtain⟨⟨b0,b1,b2⟩,bf⟩:=GC f.box;obtain⟨m0,m1⟩:=f.manyAt ag;have ah:=L.getD k;obtain⟨m,hm⟩:=ez (s2.many.getD k 0);rw[hm] at m0 ah;have ay:YJ s2 (k:Int)=⟨if m-1=0 then Jd s2.q (k:Int) else s2.q,s2.many.set k (m-1),s2.rd⟩:=by unfold YJ;rw[ZR,hm]
  have ai:=hid (R.trans ay);have F:=f.setMany k (m-1);obtain⟨n0,n1⟩:=F.manyAt ag;simp only at n0;have hgd:(s2.many.set k (m-1)).getD k 0=m-1:=by rw[Zf,List.getElem?_set_self (by rw[f.ok.many];exact ag)];rfl
  rw[hgd] at n0;obtain⟨⟨d0,d1,d2⟩,df⟩:=GC F.box;have HW2:=hid F;have bh:=hid (zW (w:=wi.setCell ⟨mb,k,none⟩ (.int .i64 (m-1))) F.qm F.box (show s2.q.length<=10000 by omega) (k:Int));have bc:=hid (V6 (l:=s2.q) (x:=(k:Int)) f.ok.q ⟨oq,x1⟩);have bt:(0:Int)<=(j:Int):=oq;have bu:(j:Int)<(A.length:Int):=oq;have k0:(0:Int)<=(k:Int):=oq;have bw:m<=100000:=ah.2;have bv:-9000000000000000000<=m:=oq;clear R ay az G af x0 hk ak F hgd hm L z ah;by_cases E:m-1=0
  .have ae:=hid (show(A.take (j+1)).foldl YJ ⟨I,s.many,s.rd⟩=⟨Jd s2.q (k:Int),s2.many.set k (m-1),s2.rd⟩ by have:=ai.o;rw[Z3 E] at this;exact this);have he:(m-1 == 0)=true:=by rw[beq_iff_eq];exact E
   have br:=hid E;clear E f;go_wp2_with (go_at_call 116;refine bh.o.mono ?_;rintro y w7 ⟨rfl,au⟩;have bg:=hid au;clear au);obtain⟨vq',bo,bn,aj⟩:=HW2.o.queue bg.o bc.o;obtain⟨bb,aa⟩:=C.o;have bz:=aa.size;have ab:But (fun k=>k=mb\/k=J\/V.ownBlock=some k) w (wi.setCell ⟨mb,k,none⟩ (.int .i64 (m-1))):=aa.trans (But.set (S:=fun k=>k=mb\/k=J\/V.ownBlock=some k) (.inl rfl) _);have ca:=ab.size;refine⟨hid ⟨j+1,vq',by go_num,g,by rw[ae.o];exact bo,fun k hk=>?_,ab.then aj (fun k hk e=>?_)⟩,by simp[intOf];omega⟩
   .rcases bn k hk with h1|h1
    .exact bb k h1
    exact .inr oq
   rcases e with e|e
   .exact .inr (.inl e)
   rcases bb k e with h1|h1
   .exact .inr (.inr h1)
   omega
  have ae:=hid (show(A.take (j+1)).foldl YJ ⟨I,s.many,s.rd⟩=⟨s2.q,s2.many.set k (m-1),s2.rd⟩ by have:=ai.o;rw[Z2 E] at this;exact this);have he:(m-1 == 0)=false:=by rw[ZZ];exact E
  clear f;go_wp2;exact⟨hid ⟨j+1,H,by go_num,g,by rw[ae.o];exact HW2.o,C.o.1,C.o.2.trans (But.set (S:=fun k=>k=mb\/k=J\/V.ownBlock=some k) (.inl rfl) _)⟩,by simp[intOf];omega⟩
 have bk:j=A.length:=oq;subst bk;rw[ZT] at f;have bj:=hid f;clear f;go_wp2;go_ret;exact⟨rfl,H,bj.o,C.o⟩
def Zbq(w:World)(o:Option (List Int))(x:Ending)(w':World):Prop:=match o with
 | none=>x=.returned (.tuple #[.slice none 0 0,.int .i64 6])
 | some l=>∃v,x=.returned (.tuple #[v,.int .i64 0])/\QV w' w.1.size v l
theorem ZaC(f:FD):EO f=Xv f f.tasks.length:=rfl
theorem Zet(f:FD):muW (Xv f f.tasks.length)<=2000\/1000<f.tasks.length:=by
 by_cases h:f.tasks.length<=1000
 .left;have g:=KM f f.tasks.length;have j:=(GK f f.tasks.length (Zc _)).many;have m:=List.countP_le_length (p:=fun x:Int=>decide (0<x)) (l:=(Xv f f.tasks.length).many);unfold muW;omega
 right;omega
theorem Zf7(f:FD)(ai an aT al:OA)(ci cn ct cl:Nat)(hf:FAP w f ai an aT al) :
  Calls prog 45 #[fv f ai an aT al ci cn ct cl] w fun x w'=>Zbq w (ofP f) x w'/\Below w.1.size w w':=by
 have ao:=hf.lens;have ah:∀(n:Nat)(d:TD),f.tasks[n]?=some d->(Y6 f d).length<=1000:=fun n d hd=>by
  have O:=QZ ((zt f d).mergeSort (fun x y=>decide (x<=y)));rw[List.length_mergeSort] at O;have h2:=U3 f d.args;have h3:=(hf.args d (Yb hd)).1;unfold Y6;unfold zt at *;omega
 have ax:=hid (fun(W:World) (hW:Below w.1.size w W)=>EP (w:=W) f ai an aT al ci cn ct cl (hf.below hW));obtain⟨T,hT⟩:=ez f.tasks.length;have cf:T<=1000:=oq;have ap:muW (Xv f T)<=2000:=by
  rcases Zet f with h|h
  .rw[<-hT];exact h
  omega
 have C:RB 2000000 (Xv f T).rd:=(xg f ah T).mono oq;have D:=gQ f ah T;have bl:ofP f=if (Xw (muW (Xv f T)) (Xv f T) []).length<T then none else some (Xw (muW (Xv f T)) (Xv f T) []):=by unfold ofP;rw[ZaC,hT]
 rw[bl];obtain⟨am,H⟩:=ez (Xw (muW (Xv f T)) (Xv f T) []);have Y:=hid H;rw[H];obtain⟨oo,ar⟩:=ez ((if am.length<T then none else some am));rw[ar];have ba:=hid ar;clear ar;have aw:=hid ap;have bb:=hid C;have av:=hid D;unfold fv at *;rw[hT] at ax ⊢;clear hf ao ah bl H C D ap hT;go_enter func45,ntmps45;go_upto_region 2 with (go_at_call 104;refine(ax.o _ bq).mono ?_;rintro y w1 ⟨W2,wb,mb,rb,vq,vs,rfl,V,hb1,bj,bn,bm⟩;have bd:=hid V;have HB1:=hid hb1;have cb:=hb1.size;have cj:=V.but.size;have J:=V.lt;have q1:=(hb1.block w.1.size (by simp)).trans (Yx w _);have HQ:=hid q1;clear V hb1 q1)
 have bw:=hid (Zh bj (Zh bn bm));have aj:=hid J;clear bj bn bm;have bx:w.1.size<W2.1.size:=by simp at cb;omega
 go_wp2;go_loopw [5] (fun s5 wr=>Hid (∃s l X c,WaM W2 wr T wb mb rb X vs s/\QV wr W2.1.size s5 l/\Xw (muW s) s l=am/\muW s+l.length<=2000/\c=l.length*2000000/\MB c s.many/\RB 2000000 s.rd/\(∀k,s5.ownBlock=some k->X.ownBlock≠some k/\∀(i:Nat)(v:Value),vs[i]?=some v->v.ownBlock≠some k))) (fun s _=>2000-(match s with|.slice _ n _=>n|_=>0))
 case atStart=>exact⟨Xv f T,[],vq,0,bd.o,Yg _ _ _ _,Y.o,by have:=aw.o;simp;exact this,rfl,av.o,bb.o,fun k m=>by simp[Value.ownBlock] at m⟩
 clear bd aw bb av Y;obtain⟨wo,rfl⟩:=ey wr;obtain⟨s,l,X,c,g,R,F,ap,hc,D,C,I⟩:=hrel.o;clear hrel;obtain⟨a5,c5,rfl⟩:=YC R;obtain⟨⟨b0,b1,b2⟩,bf⟩:=GC g.box;have cm:=g.size;have G:=hid (GJ (w:=wo) X s.q g.qm.own);have z:=hid I;have M:=hid R;have ce:=hid g;have bz:=bw.o;simp only[Zv] at bz;have hq:=(g.but.block w.1.size bx (fun e=>oq)).trans HQ.o;have Z:=hid (show Below w.1.size w wo from(bq:Below w.1.size w W2).trans (g.but.below oq (fun k e=>oq)));by_cases A:s.q=[]
 .rw[uE _ _ A] at F;subst F;have bh:¬(0:Int)<(s.q.length:Int):=by rw[A];simp
  have cd:¬(s.q.length:Int) > 0:=bh;obtain⟨⟨z0,z1,z2,z3⟩,zf⟩:=Yy hq;clear g R I hq A D C;by_cases bi:l.length<T
  .have J:(l.length:Int)<(T:Int):=oq;obtain rfl:none=oo:=by have:=ba.o;rw[Z3 bi] at this;exact this
   go_wp2_with (go_at_call 105;refine G.o.mono ?_;rintro y w2 ⟨rfl,rfl⟩);go_ret2;exact⟨rfl,Z.o⟩
  have J:¬(l.length:Int)<(T:Int):=oq;obtain rfl:some l=oo:=by have:=ba.o;rw[Z2 bi] at this;exact this
  go_wp2_with (go_at_call 105;refine G.o.mono ?_;rintro y w2 ⟨rfl,rfl⟩);go_ret2;exact⟨⟨_,rfl,Xq M.o oq⟩,Z.o⟩
 have h0:0<s.q.length:=by
  cases hq':s.q with
  | nil=>exact absurd hq' A
  | cons _ _=>simp
 have bh:(0:Int)<(s.q.length:Int):=oq;rw[qY l A] at F;have bk:=xh A;have ch:=Zg5 s;have ay:=hid (jC (w:=wo) g A oq (c:=c) oq D C oq);have aa:=hid ((MB.next D C).mono (show c+2000000<=(l.length+1)*2000000 by omega));have ab:=hid (show RB 2000000 (YO s).2.rd by rw[Zev];exact C);obtain⟨br,au⟩:=ez ((YO s).1);obtain⟨s',U⟩:=ez ((YO s).2);rw[au,U] at ay;rw[U] at aa ab bk;rw[au,U] at F;have bt:=hid F;obtain⟨i0,ac,ae,af,ag⟩:=info_parts JK;have HI:=hid (Zh ac (Zh ae (Zh af ag)));have cg:l.length<=2000:=oq;clear ac ae af ag g R I hq A D C F au U;go_wp2_with (first|(go_at_call 105;refine G.o.mono ?_;rintro y w2 ⟨rfl,rfl⟩)|(go_at_call 106;refine ay.o.mono ?_;rintro y w3 ⟨rfl,bs,bp,bo,E⟩;have ak:=hid bp;have bc:=hid bo;have HB3:=hid E;have ck:=E.size;have bv:=hid (show QV w3 W2.1.size (.slice a5 l.length c5) l from E.own M.o (fun k m e=>by have O:=(Vt M.o k m).1;have h2:=aj.o;rcases e with e|e|e<;>first|omega|exact(z.o k m).1 e));clear bp bo E)|(refine lite.YP _ (by rfl) _ _ _ (by rfl) W2.1.size 3 i0 _ 1 8 underlying44 HI.o.1 HI.o.2.1 HI.o.2.2.1 HI.o.2.2.2 rfl oq (.slice a5 l.length c5) l.length (ints l) (by rfl) (own_below bv.o bq) (some ⟨w3.1.size,0,none⟩) 1 1 [.int .i64 br] (by rfl) (by rfl) (fun j u h=>⟨_,rfl,World.news_of_block (ZA _ _) j u h⟩) (by simp[Value.oneCell']) (by unfold maxLen;omega) oq oq ?_;intro v4 w4 L be bg;have az:=hid L;have bu:=hid bg;have hb4:But (fun k=>(Value.slice a5 l.length c5).ownBlock=some k) w3 w4:=(But.of_below ((Zg _ _).alloc (Zc _) _)).then (But.of_grown be) (fun _ _ e=>e);have HB4:=hid hb4;clear L be bg hb4));have aq:=Vt M.o;have cc:WaM W2 w4 T wb mb rb bs vs s':=ak.o.other HB4.o (fun k m=>⟨(aq k m).1,fun e=>by
  rcases bc.o k e with O|O
  .exact(z.o k m).1 O
  have:=(aq k m).2;omega,(z.o k m).2⟩)
 obtain⟨a6,c6,rfl⟩:=YC az.o;refine⟨hid ⟨s',l++[br],bs,(l.length+1)*2000000,cc,?_,bt.o,by simp;omega,by simp,aa.o,ab.o,?_⟩,?_⟩
 .unfold QV;rw[Zy,<-Jt];exact az.o
 .intro k m;have ca:=Vt ak.o.qm.own;rcases bu.o with O|O
  .rw[O] at m;refine⟨fun e=>?_,(z.o k m).2⟩;rcases bc.o k e with h2|h2
   .exact(z.o k m).1 h2
   have:=(aq k m).2;omega
  rw[O] at m;injection m with m
  simp only[Zv] at m;refine⟨fun e=>by have:=(ca k e).2;omega,fun i v hv e=>?_⟩;have:=(ak.o.fam.block (i:=i+1) (by rw[List.getElem?_cons_succ];exact hv) k e).2;omega
 show 2000-(l.length+1)<2000-l.length;omega
