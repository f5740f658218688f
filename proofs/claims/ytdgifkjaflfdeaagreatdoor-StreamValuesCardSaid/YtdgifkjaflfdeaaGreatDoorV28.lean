/- Parts of the proof. -/
import Derived.Lib.MinMax
import Derived.Test.YtdgifkjaflfdeaaGreatDoorV08
import Derived.Test.YtdgifkjaflfdeaaGreatDoorV27
set_option linter.all false
set_option maxRecDepth 100000
set_option maxHeartbeats 16000000
namespace Go.Proofs.YtdgifkjaflfdeaaGreatDoor.syn
open Tryz
open Go.RowKit
theorem UL{T:ByteArray→Int}{L:List (Addr × Value)}{l:PL}{b o i:Nat}{a:Addr}(h:(Qv T L l b o i).2=some a):∃f,a=⟨b,o+i*6,none⟩∧l.at i=some f∧XX a L=none:=by
 unfold Qv at h
 cases hi:l.at i with
 | none=>rw[hi] at h;cases h
 | some f =>
  rw[hi] at h;simp only at h;split at h
  ·cases hg:XX ⟨b,o+i*6,none⟩ L with
   | some v=>rw[hg] at h;cases h
   | none =>
    rw[hg] at h;injection h with h
    subst h;exact⟨f,rfl,rfl,hg⟩
  cases h
theorem ZfX{T:ByteArray→Int}{L:List (Addr × Value)}{e:PE}{b o:Nat}(C:∀i,Ze3 T e i (Qv T L e.args b o i)) :
  ((rkV T e (Qv T L e.args b o)).2=none→(rkV T e (Qv T L e.args b o)).1=.int .i64 (evE T e)) ∧
  ∀a,(rkV T e (Qv T L e.args b o)).2=some a→∃i f,a=⟨b,o+i*6,none⟩∧e.args.at i=some f∧XX a L=none:=by
 unfold rkV;by_cases v:e.k=13
 ·rw[Z0 v];have z:evE T e=opE e.nm (evA T e.args 0) (evA T e.args 1) (evA T e.args 2):=by unfold evE;rw[Z0 v]
  by_cases y:(Qv T L e.args b o 0).2≠none
  ·rw[Z0 y];exact⟨fun h=>absurd h y,fun a ha=>by obtain⟨f,j,m,q⟩:=UL ha;exact⟨0,f,j,m,q⟩⟩
  rw[ZZ y];by_cases A:e.nm.toList=[63]
  ·rw[Z0 A];have g:evE T e=if evA T e.args 0≠0 then evA T e.args 1 else evA T e.args 2:=by rw[z];unfold opE;rw[Z0 A]
   by_cases x:evA T e.args 0≠0
   ·rw[Z0 x];rw[Z0 x] at g;rw[g];exact⟨(C 1).val,fun a ha=>by obtain⟨f,j,m,q⟩:=UL ha;exact⟨1,f,j,m,q⟩⟩
   rw[ZZ x];rw[ZZ x] at g;rw[g];exact⟨(C 2).val,fun a ha=>by obtain⟨f,j,m,q⟩:=UL ha;exact⟨2,f,j,m,q⟩⟩
  rw[ZZ A];by_cases j:(Qv T L e.args b o 1).2≠none
  ·rw[Z0 j];exact⟨fun h=>absurd h j,fun a ha=>by obtain⟨f,j,m,q⟩:=UL ha;exact⟨1,f,j,m,q⟩⟩
  rw[ZZ j];exact⟨fun _=>rfl,fun a ha=>by cases ha⟩
 rw[ZZ v];refine⟨fun _=>?_,fun a ha=>by cases ha⟩;unfold evE;rw[ZZ v]
theorem eO{w w':World}(q:∀(b:Nat)(f:Array Value)(t:TypeId),w.heap[b]?=some (.cells f t (0,0))→w'.heap[b]?=w.heap[b]?):∀(l:PL)(b o:Nat),(∃f t,w.heap[b]?=some (.cells f t (0,0)))→Qm w (fun _=>True) b l o→Qm w' (fun _=>True) b l o:=by
 intro l
 induction l with
 | nil=>intro b o _ _;trivial
 | cons k nm n d args a tl ih1 ih2 =>
  intro b o hb h;obtain⟨f,t,m⟩:=hb;have g:∀o,w'.cell? ⟨b,o,none⟩=w.cell? ⟨b,o,none⟩:=fun o=>Zn (w:=w) (a:=⟨b,o,none⟩) (q b f t m)
  obtain⟨x,y,z,A,D,⟨v,cap,C,j,hd⟩,ht⟩:=h;refine⟨(g _).trans x,(g _).trans y,(g _).trans z,(g _).trans A,(g _).trans D,⟨v,cap,(g _).trans C,j,?_⟩,ih2 b _ ⟨f,t,m⟩ ht⟩;rcases hd with hd|⟨b',o',e,⟨h6,cs',hcs'⟩,hd⟩
  ·exact .inl hd
  exact .inr ⟨b',o',e,⟨h6,cs',(q b' cs' _ hcs').trans hcs'⟩,ih1 b' o' ⟨cs',_,hcs'⟩ hd⟩
theorem At.but{w w':World}(m:∀(b:Nat)(g:Array Value)(t:TypeId),w.heap[b]?=some (.cells g t (0,0))→w'.heap[b]?=w.heap[b]?){x:Addr}{e:PE}(h:At w x e):At w' x e:=by
 obtain⟨b,o,v,cap,y,⟨g,t,q⟩,z,A,C,D,E,F,G,j⟩:=h;have hb:=m b g t q;have f:∀o,w'.cell? ⟨b,o,none⟩=w.cell? ⟨b,o,none⟩:=fun o=>Zn (w:=w) (a:=⟨b,o,none⟩) hb
 refine⟨b,o,v,cap,y,⟨g,t,hb.trans q⟩,(f _).trans z,(f _).trans A,(f _).trans C,(f _).trans D,(f _).trans E,(f _).trans F,G,?_⟩;rcases j with j|⟨b',o',e',⟨h10,cs',hcs'⟩,hd⟩
 ·exact .inl j
 exact .inr ⟨b',o',e',⟨h10,cs',(m b' cs' _ hcs').trans hcs'⟩,eO m _ b' o' ⟨cs',_,hcs'⟩ hd⟩
def msz(w:World)(mq:Nat):Nat:=match w.heap[mq]? with
 | some (.map arr _)=>arr.size
 | _=>0
theorem JF.msz{w:World}{f:Nat}{L:List (Addr × Value)}(h:JF w f L):syn.msz w f=L.length:=by
 obtain⟨arr,clock,g,j⟩:=h;unfold syn.msz;rw[g];have:=Z1 List.length j;simpa using this
def lenOf:Value→Nat
 | .slice _ n _=>n
 | _=>0
def Gr(l:List Addr):List Value:=l.map (fun a=>.pointer (some a))
theorem ZcC(l:List Addr)(x:Addr):Gr (l++[x])=Gr l++[.pointer (some x)]:=by simp[Gr]
theorem ZaG(l:List Addr)(n:Nat):(Gr l).take n=Gr (l.take n):=by simp[Gr,List.map_take]
theorem Zem{l:List Addr}{i:Nat}{x:Addr}(h:l[i]?=some x):(Gr l)[i]?=some (.pointer (some x)):=by simp[Gr,h]
theorem ZaF{w:World}{B:Nat}{v:Value}{l:List Addr}{t:TypeId}(h:w.ownsRow B t 1 v l.length (Gr l))(j:0<l.length):∃g cap,v=.slice (some ⟨g,0,none⟩) l.length cap∧B≤g∧g<w.heap.size∧l.length≤cap∧(∀i x,l[i]?=some x→w.cell? ⟨g,i,none⟩=some (.pointer (some x))):=by
 have f:=h;rcases h.2 with ⟨_,h1⟩|⟨g,cap,cur,rfl,hb,hg,hcap,_⟩
 ·omega
 exact⟨g,cap,rfl,hb,Zb hg,hcap,fun i x hi=>(World.ownsRow.cellAt f i (by have:=(Zz.1 hi).1;omega)).trans (Zem hi)⟩
theorem ZdX:(prog.info? 323).map (fun i=>(i.zero,i.size,i.bytes))=some (some (.pointer none),1,8):=by kernel_rfl
theorem Za2{w:World}{rb tb ma z:Nat}{La:List (ByteArray × Value)}{T:ByteArray→Int}(hr:RkM w rb tb ma z La [])(co:ma≠z)(hT:TV La T){bx ox:Nat}{e0:PE}(h0:At w ⟨bx,ox,none⟩ e0)(dc:e0.sz≤1000)
  {R:PE→Prop}(bg:R e0)(hR:∀e i f,R e→e.args.at i=some f→R f)(cf:∀e,R e→Zgm T e.args) :
  Calls prog 187 #[.pointer (some ⟨rb,0,none⟩),.pointer (some ⟨bx,ox,none⟩)] w fun y w'=>y=.returned (.int .i64 (evE T e0))∧But (fun k=>k=z) w w':=by
 obtain⟨I,ay,ap,bw⟩:=ZfJ h0;have hO:=bw R hR bg;obtain⟨x0,hx⟩:=ez ((⟨bx,ox,none⟩:Addr));rw[hx] at h0 ay ⊢;have HR:=hid hr;have HT:=hid hT;have H0:=hid h0;have HO:=hid hO;have cb:=hid ap;have bf:=hid (Ub.start (T:=T) h0 ay);have cn:=hr.vals.lt;clear hr hT h0 hO ap hx ay bw hR bg;go_enter func187,ntmps187;go_wp2;go_loopw [5] (fun s5 wr=>Hid (∃q L,Ub w T x0 e0 I q L∧wr.ownsRow w.heap.size 323 1 s5 q.length (Gr q)∧JF wr z L∧But (fun k=>k=z) w wr)) (fun s wr=>2*(I.length-msz wr z)+lenOf s)
 case atStart =>
  refine⟨[x0],[],bf.out,?_,HR.out.vals.keep (Za _ _ _ cn),(But.refl _ _).alloc _⟩;exact⟨rfl,.inr ⟨w.heap.size,1,#[.pointer (some x0)],rfl,Zc _,Yw w _,Zc _,by unfold maxLen;omega,rfl,rfl⟩⟩
 clear bf;obtain⟨Z,rfl⟩:=ey wr;obtain⟨q,L,hv,F,E,D⟩:=hrel.out;clear hrel;have m:∀(b:Nat)(cs:Array Value)(t:TypeId),w.heap[b]?=some (.cells cs t (0,0))→Z.heap[b]?=w.heap[b]?:=fun b cs t h=>D.block b (Zb h) (fun e=>by
  subst e;obtain⟨arr,clock,h1,_⟩:=HR.out.vals;rw[h] at h1
  cases h1)
 have am:∀p∈L,K0 Z p.1:=fun p hp=>(hv.keys p hp).2.keep (fun b cs t h=>⟨cs,(m b cs t h).trans h⟩)
 have an:RkM Z rb tb ma z La L:=⟨(m _ _ _ HR.out.box).trans HR.out.box,(m _ _ _ HR.out.tb).trans HR.out.tb,by
  have e:=D.block ma HR.out.args.lt co;obtain⟨arr,clock,h1,h2⟩:=HR.out.args;exact⟨arr,clock,e.trans h1,h2⟩,E,am⟩
 have b1:Z.cell? ⟨rb,1,none⟩=some (.map (some z)):=by simp[World.cell?,an.box]
 have HM:=hid E;have aq:=hid am;have aa:=hid D;have HV:=hid hv;have ab:=hid m;by_cases hW:q=[]
 ·subst hW;obtain⟨a5,c5,rfl⟩:=YG F;have HL:=hid (show(XX x0 L).getD (.int .i64 0)=.int .i64 (evE T e0) by rw[hv.fin rfl];rfl);have HK:=hid ((H0.out.k0).keep (fun b cs t h=>⟨cs,(m b cs t h).trans h⟩));clear m am an F E D hv;go_wp2_with (at_lookup;refine Vl JZ _ rfl _ _ false rfl z L x0 rfl rfl HM.out aq.out HK.out _ HL.out ?_);go_ret;exact⟨rfl,aa.out⟩
 have ch:0<q.length:=List.length_pos_iff.2 hW;obtain⟨n,hn⟩:∃n,q.length=n+1:=⟨q.length-1,oq⟩;have bv:q.length-1=n:=oq;obtain⟨x,hx⟩:∃x,q[q.length-1]?=some x:=⟨_,Ze oq⟩;obtain⟨e,he,ca,cx,_⟩:=hv.st _ x hx;have bl:=he.but m;obtain⟨H,bj,bi⟩:=cb.out x ca;have:=bj.one he;subst this;have cj:∃b o,(∀ad cap,Z.cell? ⟨x.block,x.off+4,none⟩=some (.slice ad H.args.len cap)→H.args.len=0∨ad=some ⟨b,o,none⟩)∧(∀f j,H.args.at j=some f→At w ⟨b,o+j*6,none⟩ f)∧(∀i,i<H.args.len→(⟨b,o+i*6,none⟩:Addr)∈I):=by
  obtain⟨au,ba,ad,cap,rfl,⟨cw,t0,ci⟩,g0,g1,g2,g3,g5,g4,ct,gd⟩:=he;have gw:=(Zn (w:=w) (a:=⟨au,ba+4,none⟩) (m _ _ _ ci)).trans g4;rcases gd with gd|⟨b',o',rfl,⟨_,cs,hcs⟩,hc⟩
  ·exact⟨0,0,fun _ _ _=>.inl (by rw[gd];rfl),(fun f j h=>by rw[gd] at h;cases h),(fun i h=>by rw[gd] at h;cases h)⟩
  refine⟨b',o',fun ad cap h=>.inr ?_,fun f j h=>EV _ _ _ _ _ ⟨cs,_,hcs⟩ hc h,fun i hi=>bi b' o' cap g4 i hi⟩;rw[gw] at h;injection h with h
  injection h with h
  exact h.symm
 obtain⟨b,o,ao,M,ae⟩:=cj;have db:=Qq H.args;have cu:H.args.sz+1=H.sz:=rfl;have aw:=hv.told hx he b o M;obtain⟨Y,aj⟩:=ZfX aw;have cq:∃A G,x=⟨A,G,none⟩:=by
  obtain⟨au,ba,_,_,e,_⟩:=he;exact⟨au,ba,e⟩
 obtain⟨A,G,rfl⟩:=cq;have V:=hid (uL (w:=Z) an HT.out bl oq (by obtain⟨f,hf,cg⟩:=HO.out _ ca;have:=hf.one he;subst this;exact cf _ cg) b o ao aw);obtain⟨g,c5,rfl,cy,cz,ck,bn⟩:=ZaF F ch;have c1:=bn _ _ hx;rw[bv] at c1;have HE:=hid he;have HX:=hid hx;have J:=hid (show Z.ownsRow w.heap.size 323 1 (.slice (some ⟨g,0,none⟩) (n+1) c5) (n+1) (Gr q) by rw[←hn];exact F);have dd:=hv.len;have cv:=hv.few;have bu:=E.msz;obtain⟨⟨v7,a8⟩,hr⟩:=ez (rkV T H (Qv T L H.args b o));rw[hr] at Y aj V;simp only at Y aj V;have da:((n:Nat):Int)+1-1=(n:Int):=oq;have n0:(0:Int)≤(n:Int):=oq;have n1:(n:Int)<((q.length:Nat):Int):=oq;have n2:((q.length:Nat):Int)-1=(n:Int):=oq;have n3:(0:Int)<((q.length:Nat):Int):=oq;have n4:((q.length:Nat):Int) > 0:=oq;clear m am an F E D hv bn hx he aw bl bj bi ao hr
 cases a8 with
 | some a =>
  obtain⟨i,f,ha,hf,hg⟩:=aj a rfl;subst ha;obtain⟨y,hy⟩:=ez ((⟨b,o+i*6,none⟩:Addr));have U:=M f i hf;have av:i<H.args.len:=by
   by_cases cm:i<H.args.len
   ·exact cm
   rw[PL.at_none _ _ oq] at hf;cases hf
  have az:=ae i av;have bm:f.sz<H.sz:=by
   obtain⟨e3,al,h5⟩:=PL.at_some H.args i av;rw[hf] at al;injection al with al
   subst al;have:=KJ H.args i;omega
  rw[hy] at hg U az V;have O:=Ve (k:=y) (v:=.int .i64 0) HV.out.nodup;have ah:=Z1 List.length (EK (v:=.int .i64 0) hg);have X:=hid (HV.out.push HX.out HE.out U az bm hg);have af:=X.out.few;have cd:=hid (U.k0.keep (fun b cs t h=>⟨cs,(ab.out b cs t h).trans h⟩));obtain⟨i0,bo,bp,br,bs⟩:=info_parts ZdX;have HI:=hid (Zh bo (Zh bp (Zh br bs)));rw[Zw] at ah;simp only[List.length_singleton] at ah;clear bo bp br bs Y aj hf hg U az bm M ae hy av O;go_wp2_with (first|(go_at_call 232;refine V.out.mono ?_;rintro yy w2 ⟨rfl,m2,rfl⟩)|(at_mapUpdate;refine Gi JZ _ rfl _ _ _ rfl z L y (.int .i64 0) rfl rfl rfl (HM.out.keep rfl) aq.out cd.out ?_;intro w6 ak ax ag;have ac:=hid ag;have hb6:But (fun k=>k=z) Z w6:=((But.refl _ Z).drewN m2).trans (But.of_upon ak);have HB6:=hid hb6;have ar:=hid (hb6.own J.out (fun k hk e=>by have:=YW J.out k hk;omega));have cr:=hb6.size;clear ak ax ag hb6)|(refine lite.Xz _ (by rfl) _ _ _ (by rfl) w.heap.size 323 i0 _ 1 8 underlying365 HI.out.1 HI.out.2.1 HI.out.2.2.1 HI.out.2.2.2 rfl oq (.slice (some ⟨g,0,none⟩) (n+1) c5) (n+1) (Gr q) (by rfl) (own_below ar.out bq) (some ⟨w6.heap.size,0,none⟩) 1 1 [.pointer (some y)] (by rfl) (by rfl) (fun j u h=>⟨_,rfl,World.news_of_block (Zy _ _) j u h⟩) (by simp[Value.oneCell']) (by unfold maxLen;omega) oq (by simp only[Zt];omega) ?_;intro v9 w9 ai hg9 cl;have be:=hid ai;have bh:But (fun k=>(Value.slice (some ⟨g,0,none⟩) (n+1) c5).ownBlock=some k) w6 w9:=(But.of_below ((Zg _ _).alloc (Zc _) _)).then (But.of_grown hg9) (fun _ _ e=>e);have bb:=hid bh;clear ai hg9 cl bh));have bz:∀k,(Value.slice (some ⟨g,0,none⟩) (n+1) c5).ownBlock=some k→k=g:=fun k h=>by
   injection h with h
   exact h.symm
  obtain⟨a6,c6,rfl⟩:=YG be.out;have bt:JF w9 z (Q0 y (.int .i64 0) L):=ac.out.keep (bb.out.block z ac.out.lt (fun e=>by have:=bz _ e;omega));refine⟨hid ⟨q++[y],Q0 y (.int .i64 0) L,X.out,?_,bt,?_⟩,?_⟩
  ·rw[ZcC,Zw,hn];exact be.out
  ·exact(aa.out.trans HB6.out).then bb.out (fun i hi e=>by have:=bz _ e;omega)
  rw[bt.msz,bu,ah];show 2*(I.length-(L.length+1))+(n+1+1)<2*(I.length-L.length)+q.length;omega
 | none =>
  have Y:=Y rfl;subst Y;have O:=Ve (k:=(⟨A,G,none⟩:Addr)) (v:=.int .i64 (evE T H)) HV.out.nodup;have X:=hid (HV.out.pop H0.out HX.out HE.out);have af:=X.out.few;have cc:=hid (HE.out.k0.keep (fun b cs t h=>⟨cs,(ab.out b cs t h).trans h⟩));obtain⟨ev,bk⟩:=ez (evE T H);rw[bk] at X V O af;clear aj M ae bk;go_upto_region 8 with (go_at_call 232;refine V.out.mono ?_;rintro yy w2 ⟨rfl,m2,rfl⟩)
  obtain⟨W,C⟩:=ez (Z.drewN m2);have b2:W.cell? ⟨rb,1,none⟩=some (.map (some z)):=by rw[←C];exact b1
  have c2:W.cell? ⟨g,n,none⟩=some (.pointer (some ⟨A,G,none⟩)):=by rw[←C];exact c1
  have HBW:=hid (show But (fun k=>k=z) Z W.drew by rw[←C];exact((But.refl _ Z).drewN m2).drew);have ce:=hid (show JF W.drew z L by rw[←C];exact HM.out.keep rfl);have bc:=hid (show ∀p∈L,K0 W.drew p.1 by rw[←C];exact aq.out);have bd:=hid (show K0 W.drew ⟨A,G,none⟩ by rw[←C];exact cc.out);rw[C];have n5:(n:Int)<((n+1:Nat):Int):=oq;have n7:n≤c5:=oq;have n6:(n:Int)<(n:Int)+1:=oq;clear C;go_still_tail 9,kq
  change wpList _ _ _ _ _ W.drew
  go_wp2_with (at_mapUpdate;refine Gi JZ _ rfl _ _ _ rfl z L ⟨A,G,none⟩ (.int .i64 ev) rfl rfl rfl ce.out bc.out bd.out ?_;intro w6 ak ax ag;have ac:=hid ag;have hb6:But (fun k=>k=z) Z w6:=HBW.out.trans (But.of_upon ak);have HB6:=hid hb6;have ar:=hid (hb6.own J.out (fun k hk e=>by have:=YW J.out k hk;omega));have cr:=hb6.size;clear ak ax ag hb6);have cp:(q.take (q.length-1)).length=n:=by rw[Z9];omega
  refine⟨hid ⟨q.take (q.length-1),Q0 ⟨A,G,none⟩ (.int .i64 ev) L,X.out,?_,ac.out,aa.out.trans HB6.out⟩,?_⟩
  ·rw[cp,bv,←ZaG];exact jD ar.out oq
  rw[ac.out.msz,bu];show 2*(I.length-(Q0 ⟨A,G,none⟩ (.int .i64 ev) L).length)+n<2*(I.length-L.length)+q.length;have:=O.2;omega
def Kc(nm:ByteArray):List (ByteArray × Int)→Option Value
 | []=>none
 | p::l=>if nm=p.1 then some (.int .i64 p.2) else Kc nm l
theorem KO(nm:ByteArray)(p:ByteArray × Int):∀l,Kc nm (l++[p])=if Kc nm l=none then (if nm=p.1 then some (.int .i64 p.2) else none) else Kc nm l
 | []=>by simp[Kc]
 | q::l=>by
  rw[ZB];unfold Kc;by_cases h:nm=q.1
  ·simp[h]
  rw[ZZ h,ZZ h,KO nm p l]
def JE(ps:List ByteArray)(al:List Int)(nm:ByteArray):Int:=((ps.zip al).find? (fun p=>nm=p.1)).elim 0 (·.2)
theorem Gg(nm:ByteArray):∀l:List (ByteArray × Int),(Kc nm l).getD (.int .i64 0)=.int .i64 ((l.find? (fun p=>nm=p.1)).elim 0 (·.2))
 | []=>rfl
 | p::l=>by
  unfold Kc;by_cases h:nm=p.1
  ·simp[h]
  rw[ZZ h,Gg nm l];simp[h]
def Je{α:Type}(w:World)(mk:α→Value)(ad:Option Addr)(l:List α):Prop:=l=[]∨∃b o,ad=some ⟨b,o,none⟩∧b<w.heap.size∧∀(i:Nat)(x:α),l[i]?=some x→w.cell? ⟨b,o+i,none⟩=some (mk x)
theorem Je.keep{α:Type}{w w':World}{mk:α→Value}{f:Option Addr}{l:List α}(h:Je w mk f l)(g:∀b,b<w.heap.size→w'.heap[b]?=w.heap[b]?):Je w' mk f l:=by
 rcases h with h|⟨b,o,e,hb,hc⟩
 ·exact .inl h
 exact .inr ⟨b,o,e,Zb ((g b hb).trans (Yl hb)),fun i x hx=>(Zn (w:=w) (a:=⟨b,o+i,none⟩) (g b hb)).trans (hc i x hx)⟩
theorem uT{w:World}(ps:List ByteArray)(g:List Int)(pa:Option Addr)(pc:Nat)(aa:Option Addr)(ac:Nat)(hp:Je w Value.string pa ps)(ha:Je w (Value.int .i64) aa g)(am:ps.length≤100000)(ai:g.length≤100000) :
  Calls prog 186 #[.slice pa ps.length pc,.slice aa g.length ac] w fun y w'=>∃tb ma La,y=.returned (.func (.func 231) #[] #[.pointer (some ⟨tb,0,none⟩)])∧w.heap.size≤tb∧w.heap.size≤ma∧w'.heap[tb]?=some (.cells #[.map (some ma)] 363 (0,0))∧YP w' ma La∧TV La (JE ps g)∧Below w.heap.size w w':=by
 have HP:=hid hp;have HA:=hid ha;obtain⟨m,hm⟩:=ez (min ps.length g.length);have af:min (ps.length:Int) (g.length:Int)=(m:Int):=oq;have ak:=fun w=>run_makeMap (P:=prog) 363 w
 have X:=hid (YP.new w);have ah:=hid (Yw w (.map #[] 0));clear hp ha;go_enter func186,ntmps186;go_wp2;go_loopw [15] (fun s15 wr=>Hid (∃i La,s15=.int .i64 ((i:Nat):Int)∧i≤m∧YP wr w.heap.size La∧(∀nm,Xb nm La=Kc nm ((ps.zip g).take i))∧wr.heap[w.heap.size+1]?=some (.cells #[.map (some w.heap.size)] 363 (0,0))∧Below w.heap.size w wr)) (fun s _=>m-(intOf s).toNat)
 case atStart =>
  refine⟨0,[],rfl,Zk _,X.out.below ((Zg _ _).alloc (Zc _) _),fun nm=>rfl,?_,((Zg _ _).alloc (Zc _) _).alloc (by simp) _⟩;have h:=Yw (w.alloc (.map #[] 0)) (.cells #[.map (some w.heap.size)] 363)
  rwa [Zt] at h
 obtain⟨R,rfl⟩:=ey wr;obtain⟨i,La,rfl,hi,q,j,f,hbel⟩:=hrel.out;clear hrel;have T:=hid q;have U:=hid j;have F:=hid f;have E:=hid hbel;by_cases aj:i<m
 ·have h1:(i:Int)<(m:Int):=oq;have A:i<ps.length:=oq;have z:i<g.length:=oq;obtain⟨k,hk⟩:=ez (ps[i]);obtain⟨v,hv⟩:=ez (g[i]);have D:(ps.zip g)[i]?=some (k,v):=by rw[List.getElem?_zip_eq_some];exact⟨by rw[←hk];exact Ze A,by rw[←hv];exact Ze z⟩
  have x:(ps.zip g).take (i+1)=(ps.zip g).take i++[(k,v)]:=by rw[List.take_add_one,D];rfl
  obtain⟨Z,op,rfl,ae,M⟩:=HP.out.resolve_left (fun e=>by rw[e] at A;simp at A);obtain⟨Y,oa,rfl,ab,L⟩:=HA.out.resolve_left (fun e=>by rw[e] at z;simp at z);have cp:R.cell? ⟨Z,op+i,none⟩=some (.string k):=(Zn (w:=w) (a:=⟨Z,op+i,none⟩) (hbel.block Z ae)).trans (M i k (by rw[←hk];exact Ze A));have ca:R.cell? ⟨Y,oa+i,none⟩=some (.int .i64 v):=(Zn (w:=w) (a:=⟨Y,oa+i,none⟩) (hbel.block Y ab)).trans (L i v (by rw[←hv];exact Ze z));have cb:=kT f;have i0:(0:Int)≤(i:Int):=oq;have i1:(i:Int)<(ps.length:Int):=oq;have i2:(i:Int)<(g.length:Int):=oq;have J:=hid x;clear q j f hbel D x hk hv M L;go_upto_region 5 with fail
  have C:=XN yr (show YP R.drew w.heap.size La from T.out) k true
  cases hg:Xb k La with
  | some v0 =>
   rw[hg] at C;simp only[Option.getD,Option.isSome,if_true] at C;have G:=hid hg;go_region
   all_goals go_wp2
   refine⟨hid ⟨i+1,La,by rw[show((i+1:Nat):Int)=(i:Int)+1 by omega],oq,T.out,fun nm=>?_,F.out,E.out.drew⟩,?_⟩
   ·rw[J.out,KO,←U.out nm];by_cases I:nm=k
    ·subst I;rw[G.out,ZZ (by simp)]
    rw[ZZ I];by_cases H:Xb nm La=none
    ·rw[Z0 H,H]
    rw[ZZ H]
   show m-((i:Int)+1).toNat<m-(i:Int).toNat;omega
  | none =>
   rw[hg] at C;simp only[Option.getD,Option.isSome,if_true] at C;obtain⟨arr,clock,ag,O⟩:=U1 yr (show YP R.drew.drew w.heap.size La from T.out) k (.int .i64 v);have V:=hid O;have G:=hid hg;clear O;go_region
   all_goals go_upto_region 7 with fail
   all_goals go_region
   all_goals go_wp2
   refine⟨hid ⟨i+1,Jo k (.int .i64 v) La,by rw[show((i+1:Nat):Int)=(i:Int)+1 by omega],oq,V.out,fun nm=>?_,?_,Qh E.out.drew.drew (Zc _) _⟩,?_⟩
   ·rw[VD,J.out,KO,←U.out nm];by_cases I:nm=k
    ·subst I;rw[G.out,Z0 rfl,Z0 rfl]
    rw[ZZ I,ZZ I];by_cases H:Xb nm La=none
    ·rw[Z0 H,H]
    rw[ZZ H]
   ·show(R.heap.setIfInBounds w.heap.size _)[w.heap.size+1]?=_;rw[Array.getElem?_setIfInBounds_ne oq];exact F.out
   show m-((i:Int)+1).toNat<m-(i:Int).toNat;omega
 have h1:¬(i:Int)<(m:Int):=oq;clear q j f hbel;go_wp2;go_ret;refine⟨_,rfl,oq,_,Zc _,F.out,La,T.out,fun nm=>?_,E.out⟩;rw[U.out nm,List.take_of_length_le (by rw[List.length_zip];omega),Gg];rfl
def B64(x:Int):Prop:=-9223372036854775808≤x∧x≤9223372036854775807
def PL.n64:PL→Prop
 | .nil=>True
 | .cons _ _ n _ args _ tl=>B64 n∧args.n64∧tl.n64
def PE.n64(e:PE):Prop:=B64 e.n∧e.args.n64
theorem Zdi(n:Int):B64 (wrap64 n):=by unfold B64 wrap64;omega
theorem ZgQ(s:List UInt8){a b:Int}(q:B64 a)(hb:B64 b):B64 (body.opP s a b):=by
 have f:B64 0:=by unfold B64;omega
 have g:B64 1:=by unfold B64;omega
 unfold body.opP
 repeat' split
 all_goals first
  | exact Zdi _
  | exact f
  | exact g
  | skip
 have j:=Int.natAbs_tmod a b;have m:a.natAbs%b.natAbs<b.natAbs:=Nat.mod_lt _ oq;unfold B64 at *;omega
theorem kZ{T:ByteArray→Int}(hT:∀nm,B64 (T nm)):∀(l:PL),l.n64→∀i,B64 (evA T l i)
 | .nil,_,_=>by unfold evA B64;omega
 | .cons k nm n d args a tl,h,0=>by
  have ih:=kZ hT args h.2.1;unfold evA;split
  ·unfold opE;split
   ·split
    ·exact ih 1
    exact ih 2
   exact ZgQ _ (ih 0) (ih 1)
  unfold sgE;split
  ·exact hT _
  split
  ·exact h.1
  unfold B64;omega
 | .cons _ _ _ _ _ _ tl,h,i+1=>kZ hT tl h.2.2 i
theorem Zcp:∀(l:PL)(i:Nat)(f:PE),l.n64→l.at i=some f→f.n64
 | .cons k nm n d args a tl,0,f,h,e=>by injection e with e;subst e;exact⟨h.1,h.2.1⟩
 | .cons _ _ _ _ _ _ tl,i+1,f,h,e=>Zcp tl i f h.2.2 e
theorem xv(ps:List ByteArray){f:List Int}(h:∀x∈f,B64 x)(nm:ByteArray):B64 (JE ps f nm):=by
 unfold JE
 cases hf:(ps.zip f).find? (fun p=>nm=p.1) with
 | none=>show B64 0;unfold B64;omega
 | some p=>exact h p.2 (List.of_mem_zip (List.mem_of_find?_eq_some hf)).2
theorem ZbI{w:World}(nn:ByteArray)(ps:List ByteArray)(G:Option Addr)(Y:Nat)(x2 x9:Int)(e:PE)(I:Option Addr)(cap:Nat)(F:List Int)(aa:Option Addr)(ac:Nat)(hp:Je w Value.string G ps)(ha:Je w (Value.int .i64) aa F)(ao:ps.length≤100000)(am:F.length≤100000)
  (O:e.args.len≤cap)(hs:SlA w (fun _=>True) e.args I)(ar:e.sz≤1000)(hn:e.n64)(J:∀x∈F,B64 x) :
  Calls prog 126 #[.agg #[.string nn,.slice G ps.length Y,.int .i64 x2,.int .i64 e.k,.string e.nm,.int .i64 e.n,.int .i64 e.d,.slice I e.args.len cap,.int .i64 e.a,.int .i64 x9],.slice aa F.length ac] w fun y w'=>y=.returned (.int .i64 (evE (JE ps F) e))∧Below w.heap.size w w':=by
 obtain⟨k,nm,n,d,args,a⟩:=e;have HT:=hid (fun W (hb:Below w.heap.size w W)=>uT (w:=W) ps F G Y aa ac (hp.keep hb.block) (ha.keep hb.block) ao am);have HS:=hid hs;have HN:=hid hn;have ab:=hid J;have an:=fun w=>run_makeMap (P:=prog) 319 w
 clear hp ha hs hn J;go_enter func126,ntmps126;go_upto_region 1 with fail
 obtain⟨W,L⟩:∃W,w.alloc (.cells #[.string nn,.slice G ps.length Y,.int .i64 x2,.int .i64 k,.string nm,.int .i64 n,.int .i64 d,.slice I args.len cap,.int .i64 a,.int .i64 x9] 113)=W:=⟨_,rfl⟩;have v:=Yw w (.cells #[.string nn,.slice G ps.length Y,.int .i64 x2,.int .i64 k,.string nm,.int .i64 n,.int .i64 d,.slice I args.len cap,.int .i64 a,.int .i64 x9] 113);have M:Below w.heap.size w W:=by rw[←L];exact(Zg _ _).alloc (Zc _) _
 have ax:W.heap.size=w.heap.size+1:=by rw[←L];simp
 rw[L] at v;rw[L];clear L;have q1:W.cell? ⟨w.heap.size,1,none⟩=some (.slice G ps.length Y):=by simp[World.cell?,v]
 have aq:=fun(a:Addr) (fn:Fn) c b (w:World)=>run_store prog w a (.func fn c b) .plain rfl
 have ag:=hid v;have z:=hid M;clear v M;go_upto_region 2 with (go_at_call 186;refine(HT.out _ z.out).mono ?_;rintro y j ⟨Z,ma,La,rfl,ay,aw,D,E,X,hb1⟩;have HB1:=hid hb1;have af:=hid D;have ah:=hid E;have aj:=hid X;have ap:=hb1.size;have av:=E.lt;have V:=Zb D;clear D E X hb1)
 obtain⟨rb,U⟩:=ez (j.heap.size+1);obtain⟨A,m⟩:=ez ((j.alloc (.map #[] 0)).alloc (.cells #[.func (.func 231) #[] #[.pointer (some ⟨Z,0,none⟩)],.map (some j.heap.size)] 321));have h3:A.heap[rb]?=some (.cells #[.func (.func 231) #[] #[.pointer (some ⟨Z,0,none⟩)],.map (some j.heap.size)] 321 (0,0)):=by
  have h:=Yw (j.alloc (.map #[] 0)) (.cells #[.func (.func 231) #[] #[.pointer (some ⟨Z,0,none⟩)],.map (some j.heap.size)] 321);rw[Zt,U,m] at h;exact h
 have hb3:Below j.heap.size j A:=by rw[←m];exact((Zg _ _).alloc (Zc _) _).alloc (by simp) _
 have T:JF A j.heap.size []:=by
  refine(JF.new j).keep ?_;rw[←m];exact Za _ _ _ (by simp)
 have C:Below W.heap.size W A:=HB1.out.trans (hb3.mono ap);have q:Below w.heap.size w A:=z.out.trans (C.mono z.out.size);have ai:=hid (show RkM A rb Z ma j.heap.size La [] from ⟨h3,(hb3.block Z V).trans af.out,ah.out.below hb3,T,fun p hp=>by cases hp⟩);have g:=(C.block w.heap.size oq).trans ag.out;have ae:=hid (show At A ⟨w.heap.size,3,none⟩ ⟨k,nm,n,d,args,a⟩ from ⟨w.heap.size,3,I,cap,rfl,⟨_,_,g⟩,by simp[World.cell?,g],by simp[World.cell?,g],by simp[World.cell?,g],by simp[World.cell?,g],by simp[World.cell?,g],by simp[World.cell?,g],O,HS.out.keep ⟨q.size,fun b _ hb=>q.block b hb⟩⟩);have ak:=hid (Za2 ai.out oq aj.out ae.out ar (R:=PE.n64) HN.out (fun e i f he hf=>Zcp _ _ _ he.2 hf) (fun e he i=>kZ (xv ps ab.out) _ he.2 i));have H:=hid q;have au:=q.size;have az:w.heap.size≤j.heap.size:=oq;rw[m,U];clear m h3 hb3 T C q g an aq HT HS q1;go_wp2_with (go_at_call 187;refine ak.out.mono ?_;rintro y w4 ⟨rfl,hb4⟩;have HB4:=hid hb4;clear hb4);go_ret;exact⟨rfl,H.out.trans (HB4.out.below au (fun k e=>oq))⟩
end Go.Proofs.YtdgifkjaflfdeaaGreatDoor.syn
