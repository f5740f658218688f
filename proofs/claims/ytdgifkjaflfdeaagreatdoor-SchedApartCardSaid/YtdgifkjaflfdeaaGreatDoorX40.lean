/- Parts of the proof. -/
import Derived.Test.YtdgifkjaflfdeaaGreatDoorX33
import Derived.Test.YtdgifkjaflfdeaaGreatDoorX39
set_option linter.all false
set_option maxRecDepth 100000
set_option maxHeartbeats 16000000
namespace Go.Proofs.YtdgifkjaflfdeaaGreatDoor.syn
open Tryz
open Go.RowKit
variable {b n B g f D jo cj m J:Nat}{q x q0:List Int}{w w' wr:World}{d:Array YH}{v:Value}
def Zft(e:Ending):Prop:=∃z:Int,e=.returned (.int .i64 z)
def Zfq(e:Ending):Prop:=∃c:Bool,e=.returned (.bool c)
theorem vl(x y:Int)(w:World):Calls prog 93 #[.int .i64 x,.int .i64 y] w fun e w'=>Zft e/\w'=w:=by
 refine(Gh x y w).mono ?_;rintro e w' ⟨rfl,rfl⟩;exact⟨⟨_,rfl⟩,rfl⟩
theorem ZdH(x:Int)(w:World):Calls prog 166 #[.int .i64 x] w fun e w'=>e=.returned (.bool false)/\w'=w:=by
 go_enter func166,ntmps166;go_wp2;go_ret;exact⟨by simp,rfl⟩
theorem Zbf(x y:Int)(w:World):Calls prog 94 #[.int .i64 x,.int .i64 y] w fun e w'=>Zft e/\w'=w:=by
 go_enter func94,ntmps94;go_wp2_with (go_at_call 166;refine(ZdH _ _).mono ?_;rintro e w' ⟨rfl,rfl⟩)
 all_goals (go_ret;exact⟨⟨_,rfl⟩,rfl⟩)
theorem Ze5(x y:Int)(w:World)(g:w.cell? ⟨b,0,none⟩=some (.int .i64 x))(j:w.cell? ⟨b,1,none⟩=some (.int .i64 y)) :
  Calls prog 92 #[.slice (some ⟨b,0,none⟩) 2 2] w fun e w'=>Zft e/\w'=w:=by
 go_enter func92,ntmps92;go_wp2;go_loopw [8] (fun s wr=>Hid (∃i:Nat,s=.int .i64 (i:Int)/\i<=2/\wr=w)) (fun s _=>2-(intOf s).toNat)
 case atStart=>exact⟨0,rfl,oq,rfl⟩
 obtain⟨i,rfl,hi,rfl⟩:=hrel.o;clear hrel;have f:i=0\/i=1\/i=2:=oq;rcases f with rfl|rfl|rfl
 .go_wp2
  all_goals first|(go_ret;exact⟨⟨_,rfl⟩,rfl⟩)|exact⟨hid ⟨1,by go_num,oq,by first|rfl|trivial⟩,by simp[intOf]⟩
 .go_wp2
  all_goals first|(go_ret;exact⟨⟨_,rfl⟩,rfl⟩)|exact⟨hid ⟨2,by go_num,oq,by first|rfl|trivial⟩,by simp[intOf]⟩
 go_wp2
 all_goals (go_ret;exact⟨⟨_,rfl⟩,rfl⟩)
theorem kY(W:World)(a b:Value)(t:TypeId):(W.alloc (.cells #[a,b] t)).drew.drew.cell? ⟨W.1.size,0,none⟩=some a/\(W.alloc (.cells #[a,b] t)).drew.drew.cell? ⟨W.1.size,1,none⟩=some b:=(YI (Yx W (.cells #[a,b] t))).1
def LsS(b:Nat)(js:Value)(g o1 o2:Nat)(d1 d2:Int)(W:World):Prop:=W.cell? ⟨b,0,none⟩=some js/\W.cell? ⟨g,o1,none⟩=some (.int .i64 d1)/\W.cell? ⟨g,o2,none⟩=some (.int .i64 d2)
def xS(n:Nat)(q:List Int):Prop:=∀x∈q,0<=x/\x<(n:Int)
theorem xS.perm{q q':List Int}(h:xS n q)(hp:q'.Perm q):xS n q':=fun x hx=>h x (hp.mem_iff.1 hx)
theorem xS.at(h:xS n q){i:Nat}(hi:i<q.length):∃p:Nat,q.getD i 0=(p:Int)/\p<n:=by
 have f:=h _ (Zi hi);rw[Zf,Ze hi];exact⟨q[i].toNat,by show q[i]=_;omega,oq⟩
theorem ZaX(h:SQ w b B (.slice (some ⟨g,f,none⟩) d.size D) v q)(E:JH w g f d)(J:xS d.size q)(i j:Nat)(hi:i<q.length)(H:j<q.length) :
  Calls prog 293 #[.pointer (some ⟨b,0,none⟩),.int .i64 (i:Int),.int .i64 (j:Int)] w fun x w'=>Zfq x/\Below w.1.size w w':=by
 obtain⟨gq,cap,rfl,hB,hg,G,hf⟩:=h.form hi;obtain⟨p,U,m⟩:=J.at hi;obtain⟨r,V,y⟩:=J.at H;have c1:=G i hi;have c2:=G j H;rw[U] at c1;rw[V] at c2;obtain⟨⟨_,_,_,L,_⟩,_⟩:=E.cell m;obtain⟨⟨_,_,_,M,_⟩,_⟩:=E.cell y;obtain⟨O,z⟩:=ez (d[p]!.d);obtain⟨R,A⟩:=ez (d[r]!.d);rw[z] at L;rw[A] at M;obtain⟨⟨c0,Y⟩,Z⟩:=YI h.blk;have F:=Zb h.blk;have C:=E.lt;obtain⟨n,T⟩:=ez d.size;rw[T] at c0 m y;have i0:(0:Int)<=(i:Int):=oq;have j0:(0:Int)<=(j:Int):=oq;have i1:(i:Int)<(q.length:Int):=oq;have j1:(j:Int)<(q.length:Int):=oq;have p0:(0:Int)<=(p:Int):=oq;have r0:(0:Int)<=(r:Int):=oq;have p1:(p:Int)<(n:Int):=oq;have r1:(r:Int)<(n:Int):=oq;obtain⟨js,I⟩:=ez (Value.slice (some ⟨g,f,none⟩) n D);have KS:=hid (fun(W:World) (hb:Below w.1.size w W)=>(show LsS b (.slice (some ⟨g,f,none⟩) n D) g (f+p*5+3) (f+r*5+3) O R W from ⟨(hb.cell (p:=⟨b,0,none⟩) F).trans c0,(hb.cell (p:=⟨g,_,none⟩) C).trans L,(hb.cell (p:=⟨g,_,none⟩) C).trans M⟩));clear h E J G hf U V L M z A T Z I js hB hg hi H m y;go_enter func293,ntmps293;go_upto_region 1 with fail
 go_still kq
 change Exit.then _ _ Exit.normal _ w.drew
 clear c0 c1 c2 Y;go_upto_region 2 with fail
 refine ZP (S:=LsS b (.slice (some ⟨g,f,none⟩) n D) g (f+p*5+3) (f+r*5+3) O R) kq (by exact KS.o _ bq) (fun hH=>?_);refine tk 0 hH ?_;refine tk 1 hH ?_;refine tk 2 hH ?_;refine tk 3 hH ?_;refine tk 4 hH ?_;refine tk 5 hH ?_;refine tk 6 hH ?_;refine tk 7 hH ?_;refine tk 8 hH ?_;refine tk 9 hH ?_;refine tk 10 hH ?_;refine tk 11 hH ?_;refine tk 12 hH ?_;refine tk 13 hH ?_;refine tk 14 hH ?_;refine tk 15 hH ?_;refine tk 17 hH ?_;refine tk 18 hH ?_;refine ry 16 fun K hK=>?_
 (go_simp;go_at_call 93;refine(vl _ _ _).mono ?_;rintro e X ⟨⟨z1,rfl⟩,rfl⟩)
 refine hK.o _ _ (fun hH=>?_) (by exact KS.o _ bq);clear hK K;refine ry 19 fun K hK=>?_
 (go_simp;go_at_call 94;refine(Zbf _ _ _).mono ?_;rintro e X ⟨⟨z2,rfl⟩,rfl⟩)
 refine hK.o _ _ (fun hH=>?_) (by exact KS.o _ bq);clear hK K;refine ry 20 fun K hK=>?_
 go_simp;refine hK.o _ _ (fun hH=>?_) (by exact KS.o _ bq);clear hK K;refine ry 21 fun K hK=>?_
 (go_simp;go_at_call 92;refine(Ze5 z1 z2 _ (kY _ _ _ _).1 (kY _ _ _ _).2).mono ?_;rintro e X ⟨⟨z3,rfl⟩,rfl⟩)
 refine hK.o _ _ (fun hH=>?_) (by exact KS.o _ bq);clear hK K;refine tk 22 hH ?_;refine tk 23 hH ?_;refine Zz kq ?_ _;go_wp2;go_ret;exact⟨⟨_,rfl⟩,bq⟩
theorem uW{Z v:Value}(h:SQ w b B Z v q)(hq:q.length<=2000000)(x:Int) :
  Calls prog 295 #[.pointer (some ⟨b,0,none⟩),.iface 3 (.int .i64 x)] w fun y w'=>y=.returned (.tuple #[])/\SqP w b B Z v (q++[x]) w':=by
 obtain⟨i0,H,I,J,L⟩:=info_parts JK;have M:=hid (Zh H (Zh I (Zh J L)));have V:=h.lt;have U:=h.hi;have F:=hid h;obtain⟨⟨c0,c1⟩,cf⟩:=YI h.blk;obtain⟨D,cap,rfl⟩:=YC h.own;have G:b<w.1.size:=oq;have ab:¬b=w.1.size:=oq;have main:∀(z:World)(C:Value),z.ownsRow B 3 1 C (q.length+1) (ints q++[.int .i64 x])->But (fun k=>(Value.slice D q.length cap).ownBlock=some k) w z->(∀k,C.ownBlock=some k->(Value.slice D q.length cap).ownBlock=some k\/w.1.size<=k)->SqP w b B Z (.slice D q.length cap) (q++[x]) (z.setCell ⟨b,1,none⟩ C):=by
  intro z C ho A hv;have hb4:=(A.block b G F.o.nb).trans F.o.blk;have Y:=But.set (S:=fun k=>k=b) (w:=z) (b:=b) (o:=1) rfl C;have X:=Zj z b 1 _ _ C hb4;refine⟨C,q++[x],List.Perm.refl _,⟨by simpa using X,?_,V,Zm U (Zm A.size Y.size)⟩,hv,(A.imp (fun i _ e=>.inr e)).then Y (fun i _ e=>.inl e)⟩;have:=Y.own ho (fun k hk e=>by have:=(World.ownsRow.lt ho k hk).1;omega);unfold QV;rw[<-Jt];simpa using this
 have R:=hid main;have ae:=Kn x;clear main h H I J L;go_enter func295,ntmps295;go_region_law (refine step_append_lies _ (by rfl) _ _ _ (by rfl) B 3 i0 _ 1 8 underlying44 M.o.1 M.o.2.1 M.o.2.2.1 M.o.2.2.2 rfl oq (.slice D q.length cap) q.length (ints q) (by rfl) ((F.o.keep bq).own) ⟨w.1.size,0,none⟩ 1 1 [.int .i64 x] (by rfl) (by rfl) (World.news_of_block (ZA _ _)) (by simp[Value.oneCell']) oq (by unfold maxLen;omega) oq (by simp;omega) (w.1.size+1) (by simp) ?_;intro gg aa z j f m ac;have g:But (fun k=>(Value.slice D q.length cap).ownBlock=some k) w z:=(But.of_below (bq:Below w.1.size w _)).then (But.of_grown f) (fun i _ e=>e);have h4:=(g.block b oq F.o.nb).trans F.o.blk;obtain⟨⟨e0,e1⟩,ef⟩:=YI h4;have T:=hid j;have E:=hid g;have O:=hid (show(Value.slice D q.length cap).ownBlock=some gg\/w.1.size<=gg from m.elim .inl (fun e=>.inr oq));clear j f m g h4)
 all_goals (go_wp2;go_end0;exact⟨rfl,R.o _ _ T.o E.o (fun k hk=>by cases hk;exact O.o)⟩)
def SqX(w:World)(b B:Nat)(js v:Value)(q:List Int)(y:Ending)(w':World):Prop:=∃x q' v',y=.returned (.iface 3 (.int .i64 x))/\(x::q').Perm q/\SQ w' b B js v' q'/\(∀k,v'.ownBlock=some k->v.ownBlock=some k\/w.1.size<=k)/\But (fun k=>k=b\/v.ownBlock=some k) w w'
theorem Za4{G v:Value}(h:SQ w b B G v q)(T:0<q.length)(U:q.length<=2000000) :
  Calls prog 294 #[.pointer (some ⟨b,0,none⟩)] w fun y w'=>SqX w b B G v q y w':=by
 obtain⟨g,cap,rfl,M,Z,H,O⟩:=h.form T;obtain⟨⟨c0,X⟩,Y⟩:=YI h.blk;have A:=h.lt;have z:=h.hi;obtain⟨n,R⟩:∃n,q.length=n+1:=⟨q.length-1,oq⟩;have c1:=H n oq;have main:∀m:Nat,SqX w b B G (.slice (some ⟨g,0,none⟩) q.length cap) q (.returned (.iface 3 (.int .i64 (q.getD n 0)))) ((w.drewN m).setCell ⟨b,1,none⟩ (.slice (some ⟨g,0,none⟩) n cap)):=by
  intro m;have F:=((But.refl (fun k=>k=b) w).drewN m).trans (But.set (S:=fun k=>k=b) (b:=b) (o:=1) rfl (.slice (some ⟨g,0,none⟩) n cap));have C:=Zj (w.drewN m) b 1 _ _ (.slice (some ⟨g,0,none⟩) n cap) h.blk;have E:q=q.take n++[q.getD n 0]:=by
   have j:=List.take_append_drop n q;rw[ZO (show n<q.length by omega),List.drop_eq_nil_of_le oq] at j;rw[Zf,Ze (show n<q.length by omega)];exact j.symm
  refine⟨_,q.take n,.slice (some ⟨g,0,none⟩) n cap,rfl,?_,⟨by simpa using C,?_,A,Zm z F.size⟩,fun k hk=>.inl hk,F.imp (fun i _ e=>.inl e)⟩
  .have:=List.perm_append_singleton (q.getD n 0) (q.take n);rw[<-E] at this;exact this.symm
  have L:=jH (m:=n) h.own oq;have j:=F.own L (fun k hk e=>by have D:g=k:=(by simpa [Value.ownBlock] using hk);subst D;omega);unfold QV;rw[Yc,show min n q.length=n by omega,show ints (q.take n)=(ints q).take n by unfold ints;rw[List.map_take]];exact j
 have f:=hid main;obtain⟨x,J⟩:=ez (q.getD n 0);rw[J] at c1 f;have I:n+1<=cap:=by
  rcases h.own.2 with ⟨e,_⟩|⟨_,_,_,e,_,_,e2,_⟩
  .cases e
  injection e with _ _ e3;rw[e3];omega
 have n0:(0:Int)<=(n:Int):=oq;have n1:(n:Int)<(q.length:Int):=oq;have n2:(n:Int)<=(q.length:Int):=oq;have n3:(n:Int)<=(cap:Int):=oq;have V:IntKind.i64.wrap ((q.length:Int)-1)=(n:Int):=by rw[show(q.length:Int)-1=(n:Int) by omega];exact ZL _ oq
 clear main H O h J R;go_enter func294,ntmps294;go_wp2;go_ret;exact f.o 0
structure SJ (w:World) (b B g jo cj:Nat) (d:Array YH) (v:Value) (q:List Int):Prop where
 sq:SQ w b B (.slice (some ⟨g,jo,none⟩) d.size cj) v q
 jh:JH w g jo d
 pl:xS d.size q
 gb:g<B/\¬g=b
 len:q.length<=2000000
structure ST (w:World) (b B g jo cj:Nat) (d:Array YH) (v:Value) (q0 q:List Int) (wr:World):Prop where
 perm:q.Perm q0
 sj:SJ wr b B g jo cj d v q
 but:But (fun k=>v.ownBlock=some k) w wr
theorem SJ.but{w w':World}{b B g jo cj:Nat}{d:Array YH}{v v':Value}{q q':List Int}(h:SJ w b B g jo cj d v q)(hs:SQ w' b B (.slice (some ⟨g,jo,none⟩) d.size cj) v' q'){S:Nat->Prop}(hb:But S w w')(hS:¬S g)(hp:xS d.size q')(hl:q'.length<=2000000):SJ w' b B g jo cj d v' q' :=
 ⟨hs,h.jh.but (hb.block g h.jh.lt hS),hp,h.gb,hl⟩
theorem SJ.ng(h:SJ w b B g jo cj d v q):¬v.ownBlock=some g:=fun e=>by have:=(h.sq.ob g e).1;have:=h.gb.1;omega
theorem SJ.below(h:SJ w b B g jo cj d v q)(hb:Below w.1.size w w'):SJ w' b B g jo cj d v q :=
 h.but (h.sq.keep hb) (But.of_below (S:=fun _=>False) hb) (fun e=>e) h.pl h.len
theorem ST.refl{w:World}{b B g jo cj:Nat}{d:Array YH}{v:Value}{q:List Int}(h:SJ w b B g jo cj d v q):ST w b B g jo cj d v q q w:=⟨List.Perm.refl _,h,But.refl _ _⟩
theorem ST.below{w wr w':World}{b B g jo cj:Nat}{d:Array YH}{v:Value}{q0 q:List Int}(h:ST w b B g jo cj d v q0 q wr)(hb:Below wr.1.size wr w'):ST w b B g jo cj d v q0 q w' :=
 ⟨h.perm,h.sj.below hb,h.but.then (But.of_below (S:=fun _=>False) hb) (fun _ _ e=>e.elim)⟩
theorem ST.swap{b B g m j:Nat}(h:ST w b B g m j d v x q wr)(z:SqT wr b B (.slice (some ⟨g,m,none⟩) d.size j) v q w'):∃q',q'.length=q.length/\ST w b B g m j d v x q' w':=by
 obtain⟨⟨q',f,y⟩,hb⟩:=z;exact⟨q',f.length_eq,f.trans h.perm,h.sj.but y hb h.sj.ng (h.sj.pl.perm f) (by rw[f.length_eq];exact h.sj.len),h.but.trans hb⟩
theorem ST.lt(h:ST w b B g jo cj d v q0 q wr)(i j:Nat)(hi:i<q.length)(hj:j<q.length) :
  Calls prog 293 #[.pointer (some ⟨b,0,none⟩),.int .i64 (i:Int),.int .i64 (j:Int)] wr fun x w'=>Zfq x/\ST w b B g jo cj d v q0 q w' :=
 (ZaX h.sj.sq h.sj.jh h.sj.pl i j hi hj).mono (fun x w' hx=>⟨hx.1,h.below hx.2⟩)
theorem ST.sw(h:ST w b B g jo cj d v q0 q wr)(i j:Nat)(hi:i<q.length)(hj:j<q.length) :
  Calls prog 296 #[.pointer (some ⟨b,0,none⟩),.int .i64 (i:Int),.int .i64 (j:Int)] wr fun x w'=>x=.returned (.tuple #[])/\∃q',q'.length=q.length/\ST w b B g jo cj d v q0 q' w' :=
 (Za6 h.sj.sq i j hi hj).mono (fun x w' hx=>⟨hx.1,h.swap hx.2⟩)
theorem ZeW{b B g J E:Nat}(h:SJ w b B g J E d v q)(j:Nat)(O:j<q.length) :
  Calls prog 178 #[.iface 218 (.pointer (some ⟨b,0,none⟩)),.int .i64 (j:Int)] w fun y w'=>y=.returned (.tuple #[])/\∃q',ST w b B g J E d v q q' w':=by
 have x:=hid (ST.refl h);obtain⟨Z,I⟩:=ez q;have M:=hid O;clear h O;go_enter func178,ntmps178;go_wp2;go_loopw [1] (fun s1 wr=>Hid (∃q' j,s1=.int .i64 ((j:Nat):Int)/\j<q'.length/\ST w b B g J E d v q q' wr)) (fun s _=>(intOf s).toNat)
 case atStart=>exact⟨q,j,rfl,M.o,x.o⟩
 clear x M I;obtain⟨q',j,rfl,z,f⟩:=hrel.o;clear hrel;have R:=f.sj.len;have X:=fun n w=>ZcL n w ⟨b,0,none⟩
 have Y:=fun n w=>uz n w ⟨b,0,none⟩
 have L:=hid f;have F:=eH j;obtain⟨i,hi⟩:=ez ((j-1)/2);rw[hi] at F;clear f;by_cases H:i=j
 .have G:((i:Int) == (j:Int))=true:=by rw[beq_iff_eq];omega
  go_wp2;go_end0;exact⟨rfl,q',L.o⟩
 have G:((i:Int) == (j:Int))=false:=by rw[ZZ];omega
 have U:i<j:=oq;clear hi H;go_wp2_with (first|(go_at_call 293;refine(L.o.lt j i z oq).mono ?_;rintro y w2 ⟨⟨c,rfl⟩,A⟩;have m:=hid A;clear A;cases c)|(go_at_call 296;refine(m.o.sw i j oq z).mono ?_;rintro y w3 ⟨rfl,V,T,C⟩;have D:=hid C;clear C))
 all_goals first
  | exact⟨hid ⟨V,i,rfl,oq,D.o⟩,by simp[intOf];omega⟩
  | (go_end0;exact⟨rfl,q',m.o⟩)
theorem ZaS{b B g T J:Nat}(h:SJ w b B g T J d v q)(n:Nat)(hn:n<=q.length) :
  Calls prog 179 #[.iface 218 (.pointer (some ⟨b,0,none⟩)),.int .i64 0,.int .i64 (n:Int)] w fun y w'=>Zfq y/\∃q',ST w b B g T J d v q q' w':=by
 have E:=hid (ST.refl h);have U:=hid hn;clear h hn;go_enter func179,ntmps179;go_wp2;go_loopw [7] (fun s7 wr=>Hid (∃q' i,s7=.int .i64 ((i:Nat):Int)/\i<=n/\n<=q'.length/\ST w b B g T J d v q q' wr)) (fun s _=>n-(intOf s).toNat)
 case atStart=>exact⟨q,0,rfl,Zk _,U.o,E.o⟩
 clear E U;obtain⟨q',i,rfl,ac,ag,A⟩:=hrel.o;clear hrel;have aa:=A.sj.len;have mL:=fun n w=>ZcL n w ⟨b,0,none⟩
 have mS:=fun n w=>uz n w ⟨b,0,none⟩
 have I:=hid A;obtain⟨f,M⟩:=ez (2*i+1);obtain⟨C,O⟩:=ez (2*i+2);have e1:2*(i:Int)+1=(f:Int):=oq;have e2:(f:Int)+1=(C:Int):=oq;have n1:¬(f:Int)<0:=oq;have ab:i<=2000000:=oq;have Z:f<=4000001:=oq;have X:i<f:=oq;have Y:i<C:=oq;clear A M O;by_cases ae:n<=f
 .have L:(n:Int)<=(f:Int):=oq;go_wp2
  all_goals (go_ret;exact⟨⟨_,rfl⟩,q',I.o⟩)
 have L:¬(n:Int)<=(f:Int):=oq;have V:(f:Int)<(n:Int):=oq;by_cases af:C<n
 .have F:(C:Int)<(n:Int):=oq;go_wp2_with (first
   | (go_at_call 293;refine(D.o.lt _ i oq oq).mono ?_;rintro y w3 ⟨⟨c3,rfl⟩,m⟩;have j:=hid m;clear m D;cases c3)
   | (go_at_call 293;refine(I.o.lt C f oq oq).mono ?_;rintro y w2 ⟨⟨c,rfl⟩,G⟩;have D:=hid G;clear G;cases c)
   | (go_at_call 296;refine(j.o.sw i _ oq oq).mono ?_;rintro y w4 ⟨rfl,H,R,x⟩;have z:=hid x;clear x))
  all_goals first
   | exact⟨hid ⟨H,f,rfl,oq,oq,z.o⟩,by simp[intOf];omega⟩
   | exact⟨hid ⟨H,C,rfl,oq,oq,z.o⟩,by simp[intOf];omega⟩
   | (go_ret;exact⟨⟨_,rfl⟩,q',j.o⟩)
 have F:¬(C:Int)<(n:Int):=oq;go_wp2_with (first
  | (go_at_call 293;refine(I.o.lt f i oq oq).mono ?_;rintro y w3 ⟨⟨c3,rfl⟩,m⟩;have j:=hid m;clear m;cases c3)
  | (go_at_call 296;refine(j.o.sw i f oq oq).mono ?_;rintro y w4 ⟨rfl,H,R,x⟩;have z:=hid x;clear x))
 all_goals first
  | exact⟨hid ⟨H,f,rfl,oq,oq,z.o⟩,by simp[intOf];omega⟩
  | (go_ret;exact⟨⟨_,rfl⟩,q',j.o⟩)
def SjP(w:World)(b B g jo cj:Nat)(d:Array YH)(v:Value)(q:List Int)(w':World):Prop :=
 ∃v' q',q'.Perm q/\SJ w' b B g jo cj d v' q'/\(∀k,v'.ownBlock=some k->v.ownBlock=some k\/w.1.size<=k)/\But (fun k=>k=b\/v.ownBlock=some k) w w'
def SjX(w:World)(b B g jo cj:Nat)(d:Array YH)(v:Value)(q:List Int)(y:Ending)(w':World):Prop :=
 ∃(x:Nat)(v':Value)(q':List Int),y=.returned (.iface 3 (.int .i64 (x:Int)))/\x<d.size/\q'.length+1=q.length/\SJ w' b B g jo cj d v' q'/\(∀k,v'.ownBlock=some k->v.ownBlock=some k\/w.1.size<=k)/\But (fun k=>k=b\/v.ownBlock=some k) w w'
theorem SjP.of{w w' w2:World}{v v':Value}{q x y:List Int}(z:x.Perm q)(j:∀k,v'.ownBlock=some k->v.ownBlock=some k\/w.1.size<=k)(hb:But (fun k=>k=b\/v.ownBlock=some k) w w')(h:ST w' b B g m f d v' x y w2):SjP w b B g m f d v q w2:=by
 refine⟨v',y,h.perm.trans z,h.sj,j,hb.then h.but (fun i hi e=>?_)⟩;rcases j i e with h1|h1
 .exact .inr h1
 omega
theorem uU{b B g I H:Nat}(h:SJ w b B g I H d v q)(x:Nat)(T:x<d.size)(R:q.length<2000000) :
  Calls prog 116 #[.iface 218 (.pointer (some ⟨b,0,none⟩)),.iface 3 (.int .i64 (x:Int))] w fun y w'=>y=.returned (.tuple #[])/\SjP w b B g I H d v (q++[(x:Int)]) w':=by
 have L:=hid (uW h.sq oq (x:Int));have V:=fun n w=>Zf3 n w ⟨b,0,none⟩
 have U:=fun n w=>Zfg n w ⟨b,0,none⟩
 have G:=hid h;have C:¬(fun k=>k=b\/v.ownBlock=some k) g:=fun e=>e.elim h.gb.2 h.ng
 have E:=hid C;clear h C;go_enter func116,ntmps116;go_wp2_with (first
  | (go_at_call 295;refine L.o.mono ?_;rintro y Z ⟨rfl,Y,J,f,D,j,hb2⟩;have M:J.length=q.length+1:=(by rw[f.length_eq];simp);have A:=hid (G.o.but D hb2 E.o (fun z hz=>by rcases List.mem_append.1 (f.mem_iff.1 hz) with h1|h1;exact G.o.pl z h1;rw[List.mem_singleton.1 h1];omega) oq);have m:=hid (Zh f (Zh j hb2));clear f D j hb2)
  | (go_at_call 115;refine(E6 A.o.sq).mono ?_;rintro y w3 ⟨rfl,rfl⟩;have O:(J.length:Int)-1=(q.length:Int):=oq)
  | (go_at_call 178;refine(ZeW A.o q.length oq).mono ?_;rintro y w4 ⟨rfl,X,F⟩))
 go_end0;obtain⟨f,j,hb2⟩:=m.o;exact⟨rfl,SjP.of f j hb2 F⟩
theorem ZaU{b B g D C:Nat}(h:SJ w b B g D C d v q)(hq:0<q.length) :
  Calls prog 117 #[.iface 218 (.pointer (some ⟨b,0,none⟩))] w fun y w'=>SjX w b B g D C d v q y w':=by
 obtain⟨n,hn⟩:∃n,q.length=n+1:=⟨q.length-1,oq⟩;have ac:=h.len;have mL:=fun n w=>Zfg n w ⟨b,0,none⟩
 have mS:=fun n w=>uz n w ⟨b,0,none⟩
 have mP:=fun n w=>Zg6 n w ⟨b,0,none⟩
 have M:=hid (ST.refl h);have L:=hid (E6 h.sq);have ae:IntKind.i64.wrap ((q.length:Int)-1)=(n:Int):=by rw[show(q.length:Int)-1=(n:Int) by omega];exact ZL _ oq
 have HN:=hid hn;have E:=hid (fun(J Y:World) (I:List Int) (y:Ending) (hs:ST w b B g D C d v q I J) (hx:SqX J b B (.slice (some ⟨g,D,none⟩) d.size C) v I y Y)=>(show SjX w b B g D C d v q y Y from by
  obtain⟨x,q',v',rfl,T,V,Z,hb⟩:=hx;have U:=T.trans hs.perm;have X:=hs.sj.pl x (T.mem_iff.1 List.mem_cons_self);have j:=U.length_eq;simp only[Zp] at j;have R:¬(fun k=>k=b\/v.ownBlock=some k) g:=fun e=>e.elim hs.sj.gb.2 hs.sj.ng
  refine⟨x.toNat,v',q',by rw[Int.toNat_of_nonneg X.1],oq,j,hs.sj.but V hb R (fun z hz=>hs.sj.pl z (T.mem_iff.1 (List.mem_cons_of_mem _ hz))) oq,fun k hk=>?_,(hs.but.imp (fun i _ e=>.inr e)).then hb (fun i hi e=>e)⟩;rcases Z k hk with h1|h1
  .exact .inl h1
  exact .inr (Zm hs.but.size h1)))
 clear h hq;go_enter func117,ntmps117;go_wp2_with (first
  | (go_at_call 115;refine L.o.mono ?_;rintro y w3 ⟨rfl,rfl⟩)
  | (go_at_call 296;refine(M.o.sw 0 n oq oq).mono ?_;rintro y w2 ⟨rfl,q2,aa,G⟩;have m:=hid G;clear G)
  | (go_at_call 179;refine(ZaS m.o.sj n oq).mono ?_;rintro y J ⟨⟨cc,rfl⟩,I,f⟩;have A:=hid (show ST _ b B g D C d v q I J from ⟨f.perm.trans m.o.perm,f.sj,m.o.but.trans f.but⟩);have ab:=f.perm.length_eq;clear f)
  | (go_at_call 294;refine(Za4 A.o.sj.sq oq A.o.sj.len).mono ?_;rintro y Y F;have H:=E.o _ _ _ _ A.o F;obtain⟨x5,q5,v5,rfl,_⟩:=F;have O:=hid H;clear H))
 go_ret;exact O.o
