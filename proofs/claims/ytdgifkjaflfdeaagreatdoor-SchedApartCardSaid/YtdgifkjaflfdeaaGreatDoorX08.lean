/- Parts of the proof. -/
import Derived.Test.YtdgifkjaflfdeaaGreatDoorX01
import Derived.Test.YtdgifkjaflfdeaaGreatDoorX04
set_option linter.all false
set_option maxRecDepth 100000
set_option maxHeartbeats 16000000
namespace Go.Proofs.YtdgifkjaflfdeaaGreatDoor.syn
open Tryz
open Go.RowKit
variable {L:List (ByteArray × Value)}{k n d ab:Int}{nm:ByteArray}{w:World}{l args:PL}{g:Value}{i b mb r:Nat}{t:TypeId}
inductive TT where
 | unk
 | ok (p f:Int)
 | bad (a e:Int)
def cvv(c:Int × Int):Value:=.agg #[.int .i64 c.1,.int .i64 c.2]
def TT.v:TT->Value
 | .unk=>.agg #[.int .i64 0,.int .i64 0,.bool false,.int .i64 0,.int .i64 0]
 | .ok p f=>.agg #[.int .i64 p,.int .i64 f,.bool true,.int .i64 0,.int .i64 0]
 | .bad a e=>.agg #[.int .i64 0,.int .i64 0,.bool false,.int .i64 a,.int .i64 e]
abbrev Env:Type:=ByteArray->Option (Int × Int)
def XW(L:List (ByteArray × Value))(env:Env):Prop:=∀nm,Xm nm L=(env nm).map cvv
def Xg(env:Env)(k:Int)(nm:ByteArray)(n d a:Int)(src:TT):TT :=
 if k=1 then match env nm with|some c=>.ok c.1 c.2|none=>.unk
 else match src with
  | .ok p f=>if k=2 then .ok p f else if (clock.YD p f k n d).2.2=0 then .ok (clock.YD p f k n d).1 (clock.YD p f k n d).2.1 else .bad a (clock.YD p f k n d).2.2
  | .unk=>.unk
  | .bad a e=>.bad a e
def YU(env:Env):PL->TT
 | .nil=>.unk
 | .cons k nm n d args a tl=>match Xg env k nm n d a (YU env args) with
  | .unk=>YU env tl
  | .ok p f=>.ok p f
  | .bad a e=>.bad a e
def YY(env:Env)(e:PE):TT:=Xg env e.k e.nm e.n e.d e.a (YU env e.args)
def QX(env:Env)(L:List (ByteArray × Value))(e:PE):Prop:=∀(w:World)(ad:OA)(cap mb:Nat),AE w e ad cap->YT w mb L ->
 Calls prog 133 #[.map (some mb),.agg #[.int .i64 e.k,.string e.nm,.int .i64 e.n,.int .i64 e.d,.slice ad e.args.len cap,.int .i64 e.a]] w fun x w'=>x=.returned (YY env e).v/\Below w.1.size w w'
def JV(env:Env)(L:List (ByteArray × Value))(l:PL):Prop:=∀(w:World)(ad:OA)(cap mb:Nat),AS w l ad->l.len<=cap->cap<=9223372036854775807->YT w mb L ->
 Calls prog 189 #[.map (some mb),.slice ad l.len cap] w fun x w'=>x=.returned (YU env l).v/\Below w.1.size w w'
theorem Zbb{env:Env}(O:XW L env)(e:PE)(V:JV env L e.args):QX env L e:=by
 intro w ad cap mb G hM;obtain⟨k,F,n,d,args,a⟩:=e;have T:=G.len;simp only at T V ⊢;unfold JV at V;have q:=hid G;have D:=hid hM;have z:=hid V;clear G hM V;obtain⟨r,g⟩:=ez (YY env ⟨k,F,n,d,args,a⟩);rw[g];unfold YY at g;simp only at g;by_cases y:k=1
 .subst y;unfold Xg at g;rw[Z3 rfl] at g
  cases he:env F with
  | none =>
   rw[he] at g;have R:Xm F L=none:=by rw[O F,he];rfl
   subst g;clear O he;have X:=hid R;clear R;go_enter func133,ntmps133;go_wp2_with (at_lookup;refine Xp Xy _ rfl _ _ rfl mb L F rfl rfl (D.o.below bq) X.o ?_);refine Zl (v:=TT.unk.v) (by simp only[results,results133];go_simp;try rfl) rfl ⟨?_,?_⟩
   .rfl
   exact bq
  | some c =>
   rw[he] at g;have R:Xm F L=some (.agg #[.int .i64 c.1,.int .i64 c.2]):=by rw[O F,he];rfl
   obtain⟨c1,c2⟩:=c;subst g;clear O he;have X:=hid R;clear R;go_enter func133,ntmps133;go_wp2_with (at_lookup;refine X0 Xy _ rfl _ _ rfl mb L F _ rfl rfl (D.o.below bq) X.o ?_);refine Zl (v:=(TT.ok c1 c2).v) (by simp only[results,results133];go_simp;try rfl) rfl ⟨?_,?_⟩
   .rfl
   exact bq
 have aa:(k == 1)=false:=ZZ.2 y;unfold Xg at g;rw[Z2 y] at g;clear O
 cases hs:YU env args with
 | unk =>
  rw[hs] at g z;simp only at g;subst g;simp only[TT.v] at z;clear y;by_cases j:k=2
  .subst j;go_enter func133,ntmps133
   repeat' (first|(go_at_call 189;(with_reducible refine(z.o _ _ _ _ (q.o.args.below bq) q.o.len.1 q.o.len.2 (D.o.below bq)).mono ?_);rintro x m ⟨rfl,hb2⟩;obtain⟨A,C⟩:=YE hb2;have I:w.1.size<m.1.size:=Yz hb2 oq;have J:w.1.size+1<m.1.size:=Yz hb2 oq)|go_values|go_skip|go_guarded|go_step|go_upon|(simp only[Int.not_lt,Int.not_le] at *;go_simp)|(go_values<;>(try go_simp))|(go_ite<;>go_prune<;>(try go_simp))|(split<;>(first|(rename_i hx;exact(hx _ rfl).elim)|go_prune)))
   refine Zl (v:=TT.unk.v) (by simp only[results,results133];go_simp;try rfl) rfl ⟨?_,?_⟩
   .rfl
   exact bq
  have E:(k == 2)=false:=ZZ.2 j;clear j;go_enter func133,ntmps133
  repeat' (first|(go_at_call 189;(with_reducible refine(z.o _ _ _ _ (q.o.args.below bq) q.o.len.1 q.o.len.2 (D.o.below bq)).mono ?_);rintro x m ⟨rfl,hb2⟩;obtain⟨A,C⟩:=YE hb2;have I:w.1.size<m.1.size:=Yz hb2 oq;have J:w.1.size+1<m.1.size:=Yz hb2 oq)|go_values|go_skip|go_guarded|go_step|go_upon|(simp only[Int.not_lt,Int.not_le] at *;go_simp)|(go_values<;>(try go_simp))|(go_ite<;>go_prune<;>(try go_simp))|(split<;>(first|(rename_i hx;exact(hx _ rfl).elim)|go_prune)))
  refine Zl (v:=TT.unk.v) (by simp only[results,results133];go_simp;try rfl) rfl ⟨?_,?_⟩
  .rfl
  exact bq
 | bad a1 e1 =>
  rw[hs] at g z;simp only at g;subst g;simp only[TT.v] at z;clear y;by_cases j:k=2
  .subst j;go_enter func133,ntmps133
   repeat' (first|(go_at_call 189;(with_reducible refine(z.o _ _ _ _ (q.o.args.below bq) q.o.len.1 q.o.len.2 (D.o.below bq)).mono ?_);rintro x m ⟨rfl,hb2⟩;obtain⟨A,C⟩:=YE hb2;have I:w.1.size<m.1.size:=Yz hb2 oq;have J:w.1.size+1<m.1.size:=Yz hb2 oq)|go_values|go_skip|go_guarded|go_step|go_upon|(simp only[Int.not_lt,Int.not_le] at *;go_simp)|(go_values<;>(try go_simp))|(go_ite<;>go_prune<;>(try go_simp))|(split<;>(first|(rename_i hx;exact(hx _ rfl).elim)|go_prune)))
   refine Zl (v:=(TT.bad a1 e1).v) (by simp only[results,results133];go_simp;try rfl) rfl ⟨?_,?_⟩
   .rfl
   exact bq
  have E:(k == 2)=false:=ZZ.2 j;clear j;go_enter func133,ntmps133
  repeat' (first|(go_at_call 189;(with_reducible refine(z.o _ _ _ _ (q.o.args.below bq) q.o.len.1 q.o.len.2 (D.o.below bq)).mono ?_);rintro x m ⟨rfl,hb2⟩;obtain⟨A,C⟩:=YE hb2;have I:w.1.size<m.1.size:=Yz hb2 oq;have J:w.1.size+1<m.1.size:=Yz hb2 oq)|go_values|go_skip|go_guarded|go_step|go_upon|(simp only[Int.not_lt,Int.not_le] at *;go_simp)|(go_values<;>(try go_simp))|(go_ite<;>go_prune<;>(try go_simp))|(split<;>(first|(rename_i hx;exact(hx _ rfl).elim)|go_prune)))
  refine Zl (v:=(TT.bad a1 e1).v) (by simp only[results,results133];go_simp;try rfl) rfl ⟨?_,?_⟩
  .rfl
  exact bq
 | ok p f =>
  rw[hs] at g z;simp only at g;simp only[TT.v] at z;by_cases j:k=2
  .subst j;rw[Z3 rfl] at g;subst g;clear y;go_enter func133,ntmps133
   repeat' (first|(go_at_call 189;(with_reducible refine(z.o _ _ _ _ (q.o.args.below bq) q.o.len.1 q.o.len.2 (D.o.below bq)).mono ?_);rintro x m ⟨rfl,hb2⟩;obtain⟨A,C⟩:=YE hb2;have I:w.1.size<m.1.size:=Yz hb2 oq;have J:w.1.size+1<m.1.size:=Yz hb2 oq)|go_values|go_skip|go_guarded|go_step|go_upon|(simp only[Int.not_lt,Int.not_le] at *;go_simp)|(go_values<;>(try go_simp))|(go_ite<;>go_prune<;>(try go_simp))|(split<;>(first|(rename_i hx;exact(hx _ rfl).elim)|go_prune)))
   refine Zl (v:=(TT.ok p f).v) (by simp only[results,results133];go_simp;try rfl) rfl ⟨?_,?_⟩
   .rfl
   exact bq
  have E:(k == 2)=false:=ZZ.2 j;rw[Z2 j] at g;have M:=hid (fun w=>clock.VZ p f k n d w);unfold clock.yB clock.Kj at M;generalize clock.YD p f k n d=r at g M;obtain⟨r1,r2,r3⟩:=r;simp only at g M;clear y j;by_cases U:r3=0
  .subst U;rw[Z3 rfl] at g;subst g;go_enter func133,ntmps133
   repeat' (first|(go_at_call 189;(with_reducible refine(z.o _ _ _ _ (q.o.args.below bq) q.o.len.1 q.o.len.2 (D.o.below bq)).mono ?_);rintro x m ⟨rfl,hb2⟩;obtain⟨A,C⟩:=YE hb2;have I:w.1.size<m.1.size:=Yz hb2 oq;have J:w.1.size+1<m.1.size:=Yz hb2 oq)|(go_at_call 170;(with_reducible refine(M.o _).mono ?_);rintro x H ⟨rfl,hb3⟩;obtain⟨Y,Z⟩:=YE hb3;have a4:w.1.size<H.1.size:=Yz hb3 oq;have a5:w.1.size+1<H.1.size:=Yz hb3 oq;have a6:m.1.size<H.1.size:=Yz hb3 oq)|go_values|go_skip|go_guarded|go_step|go_upon|(simp only[Int.not_lt,Int.not_le] at *;go_simp)|(go_values<;>(try go_simp))|(go_ite<;>go_prune<;>(try go_simp))|(split<;>(first|(rename_i hx;exact(hx _ rfl).elim)|go_prune)))
   refine Zl (v:=(TT.ok r1 r2).v) (by simp only[results,results133];go_simp;try rfl) rfl ⟨?_,?_⟩
   .rfl
   exact bq
  rw[Z2 U] at g;subst g;have ab:(r3 == 0)=false:=ZZ.2 U;clear U;go_enter func133,ntmps133
  repeat' (first|(go_at_call 189;(with_reducible refine(z.o _ _ _ _ (q.o.args.below bq) q.o.len.1 q.o.len.2 (D.o.below bq)).mono ?_);rintro x m ⟨rfl,hb2⟩;obtain⟨A,C⟩:=YE hb2;have I:w.1.size<m.1.size:=Yz hb2 oq;have J:w.1.size+1<m.1.size:=Yz hb2 oq)|(go_at_call 170;(with_reducible refine(M.o _).mono ?_);rintro x H ⟨rfl,hb3⟩;obtain⟨Y,Z⟩:=YE hb3;have a4:w.1.size<H.1.size:=Yz hb3 oq;have a5:w.1.size+1<H.1.size:=Yz hb3 oq;have a6:m.1.size<H.1.size:=Yz hb3 oq)|go_values|go_skip|go_guarded|go_step|go_upon|(simp only[Int.not_lt,Int.not_le] at *;go_simp)|(go_values<;>(try go_simp))|(go_ite<;>go_prune<;>(try go_simp))|(split<;>(first|(rename_i hx;exact(hx _ rfl).elim)|go_prune)))
  refine Zl (v:=(TT.bad a r3).v) (by simp only[results,results133];go_simp;try rfl) rfl ⟨?_,?_⟩
  .rfl
  exact bq
def TT.good:TT->Prop
 | .bad _ e=>e≠0
 | _=>True
theorem zg{env:Env}{n d a:Int}{src:TT}(h:src.good):(Xg env k nm n d a src).good:=by
 unfold Xg;split
 .split<;>trivial
 cases src with
 | unk=>trivial
 | bad a e=>exact h
 | ok p f =>
  simp only;split
  .trivial
  split
  .trivial
  assumption
theorem uZ(env:Env):∀l:PL,(YU env l).good:=by
 intro l
 induction l with
 | nil=>trivial
 | cons k nm n d args a tl ih1 ih2 =>
  have h:=zg (env:=env) (k:=k) (nm:=nm) (n:=n) (d:=d) (a:=a) ih1;unfold YU;generalize Xg env k nm n d a (YU env args)=t at h
  cases t with
  | unk=>exact ih2
  | ok p f=>trivial
  | bad a e=>exact h
theorem Ux(env:Env)(e:PE):(YY env e).good:=zg (uZ env e.args)
def Qo(wr:World)(ad:OA)(l rest:PL)(i:Nat):Prop :=
 i+rest.len=l.len/\rest.sz<=l.sz/\(rest=.nil\/∃b o,ad=some ⟨b,o,none⟩/\b<wr.1.size/\AC wr rest b (o+i*6))
theorem Qo.start{f:OA}(h:AS w l f):Qo w f l l 0:=by
 refine⟨oq,Zc _,?_⟩;rcases h with h|⟨b,o,e,hb,h⟩
 .exact .inl h
 exact .inr ⟨b,o,e,hb,by simpa using h⟩
theorem Qo.below{w w':World}{g:OA}{l rest:PL}{i:Nat}(h:Qo w g l rest i)(hb:Below w.1.size w w'):Qo w' g l rest i:=by
 obtain⟨j,m,f⟩:=h;refine⟨j,m,?_⟩;rcases f with f|⟨b,o,e,hlt,f⟩
 .exact .inl f
 exact .inr ⟨b,o,e,Zd hlt hb.size,f.below hb _ _ _ hlt⟩
theorem Qo.tail{g:OA}{l j args:PL}{k n d a:Int}(h:Qo w g l (.cons k nm n d args a j) i):Qo w g l j (i+1):=by
 obtain⟨m,q,f⟩:=h;refine⟨by simp only[PL.len] at m;omega,by simp only[PL.sz] at q;omega,?_⟩;rcases f with f|⟨b,o,e,hlt,f⟩
 .cases f
 obtain⟨_,_,_,_,_,_,_,ht⟩:=f;exact .inr ⟨b,o,e,hlt,by rw[show o+(i+1)*6=o+i*6+6 by omega];exact ht⟩
theorem GD{f g j m q:Value}(h:w.1[b]?=some (.cells #[f,g,j,m,q] t (0,0))) :
  (w.cell? ⟨b,0,none⟩=some f/\w.cell? ⟨b,1,none⟩=some g/\w.cell? ⟨b,2,none⟩=some j/\w.cell? ⟨b,3,none⟩=some m/\w.cell? ⟨b,4,none⟩=some q)/\∀o,w.frozen? ⟨b,o,none⟩=false:=by
 refine⟨⟨?_,?_,?_,?_,?_⟩,?_⟩
 all_goals first|(intro o;simp[World.frozen?,h])|simp[World.cell?,h]
def ZgH(w:World)(env:Env)(L:List (ByteArray × Value))(l:PL)(ad:OA)(mb:Nat)(v:Value)(wr:World):Prop :=
 ∃(i:Nat)(rest:PL),v=.int .i64 (i:Int)/\Qo wr ad l rest i/\YU env rest=YU env l /\
  wr.1[w.1.size]?=some (.cells #[.int .i64 0,.int .i64 0,.bool false,.int .i64 0,.int .i64 0] 238 (0,0))/\Below w.1.size w wr
theorem ug{env:Env}(l:PL)(ih:∀e:PE,e.args.sz<l.sz->QX env L e):JV env L l:=by
 intro w ad cap mb hs ae ag hM;have HS:=hid hs;have HM:=hid hM;have Z:=hid ih;clear hs hM ih;obtain⟨r,hr⟩:=ez (YU env l);rw[hr];have HR:=hid hr;clear hr;go_enter func189,ntmps189;go_wp2;go_loopw [10] (fun v wr=>Hid (ZgH w env L l ad mb v wr)) (fun i _=>l.len-(intOf i).toNat)
 case atStart=>exact⟨0,l,rfl,(Qo.start HS.o).below bq,rfl,Yx w _,bq⟩
 obtain⟨i,rest,rfl,m,g,y,hbel⟩:=hrel.o;clear hrel;obtain⟨⟨x0,x1,x2,x3,x4⟩,xf⟩:=GD y;have q:=hid y;have HBEL:=hid hbel;have R:=m.1;have A:=Zb y;have D:=hid m;have G:=hid g;clear y hbel m g
 cases rest with
 | nil =>
  have T:(i:Int)=(l.len:Int):=by simp only[PL.len] at R;omega
  have X:=G.o;rw[YU] at X;have F:r=.unk:=by rw[<-HR.o,<-X]
  subst F;clear X
  repeat' (first|go_values|go_skip|go_guarded|go_step|go_upon|(simp only[Int.not_lt,Int.not_le] at *;go_simp)|(go_values<;>(try go_simp))|(go_ite<;>go_prune<;>(try go_simp))|(split<;>(first|(rename_i hx;exact(hx _ rfl).elim)|go_prune)))
  refine Zl (v:=TT.unk.v) (by simp only[results,results189];go_simp;try rfl) rfl ⟨?_,?_⟩
  .rfl
  exact bq
 | cons k1 nm1 n1 d1 args1 a1 tl =>
  have T:(i:Int)<(l.len:Int):=by simp only[PL.len] at R;omega
  obtain⟨b,o,rfl,hb,X,F,h2,h3,h5,hn,⟨ac,H,h4,E,J,M⟩,ht⟩:=D.o.2.2.resolve_left (by intro h;cases h);have U:=D.o.2.1;simp only[PL.sz] at U;have z:=hid (Z.o ⟨k1,nm1,n1,d1,args1,a1⟩ (by show args1.sz<l.sz;omega));have Y:=hid (show AE wr ⟨k1,nm1,n1,d1,args1,a1⟩ ac H from ⟨hn,⟨E,J⟩,M⟩);have hgd:=Ux env ⟨k1,nm1,n1,d1,args1,a1⟩;have g:=G.o;rw[YU] at g;unfold QX at z;simp only at z;have V:YY env ⟨k1,nm1,n1,d1,args1,a1⟩=Xg env k1 nm1 n1 d1 a1 (YU env args1):=rfl;rw[<-V] at g;generalize YY env ⟨k1,nm1,n1,d1,args1,a1⟩=t at g hgd z;clear V ht hn M
  cases t with
  | unk =>
   simp only at g;simp only[TT.v] at z;have aa:=hid g;clear g hgd
   repeat' (first|(go_at_call 133;(with_reducible refine(z.o _ _ _ _ (Y.o.below bq) (HM.o.below bq)).mono ?_);rintro x C ⟨rfl,hb2⟩;obtain⟨I,O⟩:=YE hb2;have a2:w.1.size<C.1.size:=Yz hb2 oq;have a3:wr.1.size<C.1.size:=Yz hb2 oq;have j:=(hb2.block w.1.size oq).trans ((Z6 _ _ A).trans q.o);obtain⟨⟨y0,y1,y2,y3,y4⟩,yf⟩:=GD j;clear j)|go_values|go_skip|go_guarded|go_step|go_upon|(simp only[Int.not_lt,Int.not_le] at *;go_simp)|(go_values<;>(try go_simp))|(go_ite<;>go_prune<;>(try go_simp))|(split<;>(first|(rename_i hx;exact(hx _ rfl).elim)|go_prune)))
   go_roundw
   case rel=>exact⟨i+1,tl,by go_num,D.o.tail.below bq,aa.o,(Below.block (show Below wr.1.size wr _ from bq) _ A).trans q.o,bq⟩
   simp[intOf];omega
  | ok p f =>
   simp only at g;simp only[TT.v] at z;have F:r=.ok p f:=by rw[<-HR.o,<-g]
   subst F;clear g hgd
   repeat' (first|(go_at_call 133;(with_reducible refine(z.o _ _ _ _ (Y.o.below bq) (HM.o.below bq)).mono ?_);rintro x C ⟨rfl,hb2⟩;obtain⟨I,O⟩:=YE hb2;have a2:w.1.size<C.1.size:=Yz hb2 oq;have a3:wr.1.size<C.1.size:=Yz hb2 oq;have j:=(hb2.block w.1.size oq).trans ((Z6 _ _ A).trans q.o);obtain⟨⟨y0,y1,y2,y3,y4⟩,yf⟩:=GD j;clear j)|go_values|go_skip|go_guarded|go_step|go_upon|(simp only[Int.not_lt,Int.not_le] at *;go_simp)|(go_values<;>(try go_simp))|(go_ite<;>go_prune<;>(try go_simp))|(split<;>(first|(rename_i hx;exact(hx _ rfl).elim)|go_prune)))
   refine Zl (v:=(TT.ok p f).v) (by simp only[results,results189];go_simp;try rfl) rfl ⟨?_,?_⟩
   .rfl
   exact bq
  | bad ab eb =>
   simp only at g;simp only[TT.v] at z;have F:r=.bad ab eb:=by rw[<-HR.o,<-g]
   subst F;have af:(eb == 0)=false:=ZZ.2 hgd;clear g hgd
   repeat' (first|(go_at_call 133;(with_reducible refine(z.o _ _ _ _ (Y.o.below bq) (HM.o.below bq)).mono ?_);rintro x C ⟨rfl,hb2⟩;obtain⟨I,O⟩:=YE hb2;have a2:w.1.size<C.1.size:=Yz hb2 oq;have a3:wr.1.size<C.1.size:=Yz hb2 oq;have j:=(hb2.block w.1.size oq).trans ((Z6 _ _ A).trans q.o);obtain⟨⟨y0,y1,y2,y3,y4⟩,yf⟩:=GD j;clear j)|go_values|go_skip|go_guarded|go_step|go_upon|(simp only[Int.not_lt,Int.not_le] at *;go_simp)|(go_values<;>(try go_simp))|(go_ite<;>go_prune<;>(try go_simp))|(split<;>(first|(rename_i hx;exact(hx _ rfl).elim)|go_prune)))
   refine Zl (v:=(TT.bad ab eb).v) (by simp only[results,results189];go_simp;try rfl) rfl ⟨?_,?_⟩
   .rfl
   exact bq
theorem ZdD{env:Env}(g:XW L env):∀(N:Nat),(∀l:PL,l.sz<N->JV env L l)/\(∀e:PE,e.args.sz<N->QX env L e):=by
 intro N
 induction N with
 | zero=>exact⟨fun l h=>absurd h (Ym _),fun e h=>absurd h (Ym _)⟩
 | succ N ih =>
  have f:∀l:PL,l.sz<N+1->JV env L l:=fun l h=>ug l (fun e he=>ih.2 e oq)
  exact⟨f,fun e h=>Zbb g e (f _ h)⟩
theorem zk{env:Env}(hE:XW L env)(e:PE):QX env L e:=(ZdD hE _).2 e (ZX _)
theorem UX(k:ByteArray)(v:Value)(nm:ByteArray):∀L:List (ByteArray × Value),Xm nm (JB k v L)=if nm=k then some v else Xm nm L:=by
 intro L
 induction L with
 | nil=>unfold JB Xm;rfl
 | cons p L ih =>
  unfold JB;by_cases f:k=p.1
  .rw[Z3 f];unfold Xm;by_cases h:nm=k
   .rw[Z3 h,Z3 h]
   rw[Z2 h,Z2 h,Z2 (by rw[<-f];exact h)]
  rw[Z2 f];unfold Xm;by_cases h:nm=p.1
  .rw[Z3 h,Z3 h,Z2 (by rw[h];exact fun e=>f e.symm)]
  rw[Z2 h,Z2 h];exact ih
theorem jK(k:ByteArray)(v:Value):∀L:List (ByteArray × Value),Xm k L=none->(JB k v L).length=L.length+1:=by
 intro L
 induction L with
 | nil=>intro _;rfl
 | cons p L ih =>
  intro h;unfold Xm at h;by_cases f:k=p.1
  .rw[Z3 f] at h;cases h
  rw[Z2 f] at h;unfold JB;rw[Z2 f,Zp,ih h,Zp]
def upd(env:Env)(k:ByteArray)(c:Int × Int):Env:=fun nm=>if nm=k then some c else env nm
theorem XW.put{env:Env}(h:XW L env)(k:ByteArray)(c:Int × Int):XW (JB k (cvv c) L) (upd env k c):=by
 intro g;rw[UX];unfold upd;by_cases f:g=k
 .rw[Z3 f,Z3 f];rfl
 rw[Z2 f,Z2 f];exact h g
def qQ(w:World)(mb:Nat):Nat:=match w.1[mb]? with|some (.map arr _)=>arr.size|_=>0
theorem YT.size(h:YT w mb L):qQ w mb=L.length:=by
 obtain⟨arr,clock,f,g⟩:=h;unfold qQ;rw[f];have:=Z4 List.length g;simpa using this
theorem FlC.cells{b o:Nat}{nm nm1:ByteArray}{z A q j v:Int}{f:PL}(h:FlC w b o ⟨nm,⟨z,nm1,A,q,f,j⟩,v⟩):∃ad cap,
  w.cell? ⟨b,o,none⟩=some (.string nm)/\w.cell? ⟨b,o+1,none⟩=some (.int .i64 z)/\w.cell? ⟨b,o+2,none⟩=some (.string nm1)/\w.cell? ⟨b,o+3,none⟩=some (.int .i64 A)/\w.cell? ⟨b,o+4,none⟩=some (.int .i64 q) /\
  w.cell? ⟨b,o+5,none⟩=some (.slice ad f.len cap)/\w.cell? ⟨b,o+6,none⟩=some (.int .i64 j)/\w.cell? ⟨b,o+7,none⟩=some (.int .i64 v)/\AE w ⟨z,nm1,A,q,f,j⟩ ad cap/\(nm.size<=9223372036854775807/\I64 v):=by
 obtain⟨C,⟨m,g,D,E,F,G,H,I,x⟩,J,y⟩:=h;exact⟨m,g,C,D,E,F,G,H,I,J,x,y⟩
theorem yT{l:List FL}(h:i<l.length):l.drop i=l[i]::l.drop (i+1):=by rw[ZO h]
theorem YT.upon{w w':World}(h:YT w mb L)(m:Upon r w w')(f:mb≠r):YT w' mb L:=by
 obtain⟨arr,clock,g,j⟩:=h;exact⟨arr,clock,(m.block mb (Zb g) f).trans g,j⟩
structure FW (W0 w wr:World) (mb:Nat) (L:List (ByteArray × Value)) (env:Env):Prop where
 upon:Upon mb w wr
 map:YT wr mb L
 env:XW L env
def isT:Value->Nat
 | .bool true=>1
 | _=>0
def Ul:Ending:=.returned (.tuple #[.int .i64 0,.int .i64 0])
theorem J2(p q m v:Int)(w:World):(Op.equal 50 (.agg #[.int .i64 p,.int .i64 q]) (.agg #[.int .i64 m,.int .i64 v])).run prog w=.ok (decide (p=m/\q=v)) w:=by
 have E:prog.underlying 50=some (.struct (prog.fieldsOf 50)):=by kernel_rfl
 have D:prog.stoodInHeld 50=false:=by kernel_rfl
 have g : (prog.fieldsOf 50).toList.map (fun f => (f.name, f.type, f.offset)) = [("Period", 2, 0), ("Phase", 2, 1)] := by kernel_rfl
 obtain ⟨f1, j, z, F, J, H, G, L, I⟩ : ∃ f1 j, (prog.fieldsOf 50).toList = [f1, j] /\ f1.name = "Period" /\ f1.type = 2 /\ f1.offset = 0 /\ j.name = "Phase" /\ j.type = 2 /\ j.offset = 1 := by
  generalize (prog.fieldsOf 50).toList=l at g
  cases l with
  | nil=>simp at g
  | cons f1 l =>
   cases l with
   | nil=>simp at g
   | cons j l =>
    cases l with
    | nil=>simp at g;exact⟨f1,j,rfl,g.1.1,g.1.2.1,g.1.2.2,g.2.1,g.2.2.1,g.2.2.2⟩
    | cons f3 l=>simp at g
 unfold Op.equal;rw[show Op.maxDepth=9998+1+1 from rfl,run_equalIn_agg w (9998+1) 50 _ _ E D,z];have hi:(isAgg 2).run prog w=.ok false w:=by kernel_rfl
 have C:(Op.equalIn (9998+1) 2 (.int .i64 p) (.int .i64 m)).run prog w=.ok (p == m) w:=run_equalIn_int w 9998 2 .i64 .i64 _ _ underlying2;have A:(Op.equalIn (9998+1) 2 (.int .i64 q) (.int .i64 v)).run prog w=.ok (q == v) w:=run_equalIn_int w 9998 2 .i64 .i64 _ _ underlying2;simp only[Op.eqFields,F,J,H,G,L,I];simp[part,hi,C,A];by_cases x:p=m<;>by_cases y:q=v<;>simp[x,y]
def ckL(env:Env)(c:Int × Int):PL->Bool
 | .nil=>true
 | .cons k nm n d args a tl=>match Xg env k nm n d a (YU env args) with
  | .bad _ _=>false
  | .unk=>decide ((0,0)=c)&&ckL env c tl
  | .ok p f=>decide ((p,f)=c)&&ckL env c tl
def ckA(env:Env):PL->Bool
 | .nil=>true
 | .cons k nm n d args a tl=>match Xg env k nm n d a (YU env args) with
  | .bad _ _=>false
  | .unk=>ckL env (0,0) tl
  | .ok p f=>ckL env (p,f) tl
theorem UR{f g:Value}(h:w.1[b]?=some (.cells #[f,g] t (0,0))) :
  (w.cell? ⟨b,0,none⟩=some f/\w.cell? ⟨b,1,none⟩=some g)/\∀o,w.frozen? ⟨b,o,none⟩=false:=by
 refine⟨⟨?_,?_⟩,?_⟩
 all_goals first|(intro o;simp[World.frozen?,h])|simp[World.cell?,h]
theorem eA{a b:Value}(h:w.1[r]?=some (.cells #[a,b] t (0,0)))(o:Nat)(u:Value) :
  (w.setCell ⟨r,o,none⟩ u).1[r]?=some (.cells (#[a,b].setIfInBounds o u) t (0,0)):=by
 have f:=Zb h;have g:w.1[r]=.cells #[a,b] t (0,0):=by simpa [Yo f] using h
 show(w.1.modify r _)[r]?=_;rw[Yo (by simpa using f),Array.getElem_modify_self,g];rfl
theorem set2{a b a' b':Value}(h:w.1[r]?=some (.cells #[a,b] t (0,0))) :
  ((w.setCell ⟨r,0,none⟩ a').setCell ⟨r,1,none⟩ b').1[r]?=some (.cells #[a',b'] t (0,0)):=eA (a:=a') (b:=b) (eA h 0 a') 1 b'
theorem Zbd(env:Env)(k:Int)(nm:ByteArray)(n d a:Int)(args:PL):(∃ab eb,Xg env k nm n d a (YU env args)=.bad ab eb) \/
  ∃p f kb,(Xg env k nm n d a (YU env args)).v=.agg #[.int .i64 p,.int .i64 f,.bool kb,.int .i64 0,.int .i64 0] /\
   (∀c tl,ckL env c (.cons k nm n d args a tl)=(decide ((p,f)=c)&&ckL env c tl))/\∀tl,ckA env (.cons k nm n d args a tl)=ckL env (p,f) tl:=by
 cases h:Xg env k nm n d a (YU env args) with
 | bad ab eb=>exact .inl ⟨ab,eb,rfl⟩
 | unk=>exact .inr ⟨0,0,false,rfl,fun c tl=>by rw[ckL,h],fun tl=>by rw[ckA,h]⟩
 | ok p f=>exact .inr ⟨p,f,true,rfl,fun c tl=>by rw[ckL,h],fun tl=>by rw[ckA,h]⟩
theorem Zea{env:Env}{n d a ab f:Int}(h:Xg env k nm n d a (YU env args)=.bad ab f)(c:Int × Int)(g:PL):ckL env c (.cons k nm n d args a g)=false:=by rw[ckL,h]
theorem Zd8{env:Env}{n d a ab f:Int}(h:Xg env k nm n d a (YU env args)=.bad ab f)(g:PL):ckA env (.cons k nm n d args a g)=false:=by rw[ckA,h]
def yx(b:Bool)(x:Ending):Prop:=if b=true then x=Ul else ∃a e,e≠0/\x=.returned (.tuple #[.int .i64 a,.int .i64 e])
def Zgx(w:World)(env:Env)(e:PE)(ad:OA)(cap:Nat)(v:Value)(wr:World):Prop :=
 ∃(i:Nat)(rest:PL)(c1 c2:Int),v=.int .i64 (i:Int)/\Qo w ad e.args rest i/\(i=0->rest=e.args)/\(i≠0->ckL env (c1,c2) rest=ckA env e.args) /\
  wr.1[w.1.size]?=some (.cells #[.int .i64 e.k,.string e.nm,.int .i64 e.n,.int .i64 e.d,.slice ad e.args.len cap,.int .i64 e.a] 111 (0,0)) /\
  wr.1[w.1.size+1]?=some (.cells #[.int .i64 c1,.int .i64 c2] 50 (0,0))/\Below w.1.size w wr
theorem qb(e:PE)(ad:OA)(cap mb:Nat)(L:List (ByteArray × Value))(env:Env)(V:AE w e ad cap)(hM:YT w mb L)(hE:XW L env) :
  Calls prog 135 #[.map (some mb),.agg #[.int .i64 e.k,.string e.nm,.int .i64 e.n,.int .i64 e.d,.slice ad e.args.len cap,.int .i64 e.a]] w fun x w'=>yx (ckA env e.args) x/\Below w.1.size w w':=by
 obtain⟨k,nm,n,d,args,a⟩:=e;have ah:=V.len;simp only at ah ⊢;have HA:=hid V;have HM:=hid hM;clear V hM;obtain⟨r,hr⟩:=ez (ckA env args);rw[hr];have HR:=hid hr;clear hr;go_enter func135,ntmps135;go_wp2;go_loopw [13] (fun v wr=>Hid (Zgx w env ⟨k,nm,n,d,args,a⟩ ad cap v wr)) (fun i _=>args.len-(intOf i).toNat)
 case atStart=>exact⟨0,args,0,0,rfl,Qo.start HA.o.args,fun _=>rfl,fun h=>absurd rfl h,(Z6 _ _ (by simp)).trans (Yx w _),by simpa using Yx (w.alloc _) _,bq⟩
 obtain⟨i,rest,c1,c2,rfl,y,R,q,E,F,hbel⟩:=hrel.o;clear hrel;simp only at R q;obtain⟨⟨x0,x1,x2,x3,x4,x5⟩,xf⟩:=Xl E;obtain⟨⟨g0,g1⟩,gf⟩:=UR F;have m:=hid E;have A:=hid F;have HBEL:=hid hbel;have aa:=y.1;simp only at aa;have O:=Zb E;have D:=Zb F;have ap:=hbel.size;have T:=hid y;have aj:=hid (y.below hbel);clear E F hbel y
 cases rest with
 | nil =>
  have ag:(i:Int)=(args.len:Int):=by simp only[PL.len] at aa;omega
  have h1:r=true:=by
   rw[<-HR.o];by_cases C:i=0
   .rw[<-R C];rfl
   rw[<-q C];rfl
  subst h1;clear R q;go_wp2;go_ret2;exact⟨rfl,HBEL.o⟩
 | cons k1 nm1 n1 d1 args1 a1 tl =>
  have ag:(i:Int)<(args.len:Int):=by simp only[PL.len] at aa;omega
  obtain⟨b,o,rfl,hb,C,h1,h2,h3,h5,hn,⟨ak,ac,h4,Y,ae,af⟩,ht⟩:=aj.o.2.2.resolve_left (by intro h;cases h);have M:=hid (zk hE ⟨k1,nm1,n1,d1,args1,a1⟩);have HE:=hid (show AE wr ⟨k1,nm1,n1,d1,args1,a1⟩ ak ac from ⟨hn,⟨Y,ae⟩,af⟩);have hgd:=Ux env ⟨k1,nm1,n1,d1,args1,a1⟩;unfold QX at M;simp only at M;have ai:YY env ⟨k1,nm1,n1,d1,args1,a1⟩=Xg env k1 nm1 n1 d1 a1 (YU env args1):=rfl;rw[ai] at M hgd;clear ai ht hn af;rcases Zbd env k1 nm1 n1 d1 a1 args1 with ⟨ab,eb,hbad⟩|⟨p,f,kb,hv,hckl,hcka⟩
  .have h1:r=false:=by
    rw[<-HR.o];by_cases C:i=0
    .rw[<-R C];exact Zd8 hbad tl
    rw[<-q C];exact Zea hbad (c1,c2) tl
   subst h1;rw[hbad] at M hgd;simp only[TT.v] at M;have ao:(eb == 0)=false:=ZZ.2 hgd;clear R q hbad;go_wp2_with (go_at_call 133;(with_reducible refine(M.o _ _ _ _ (HE.o.below bq) (HM.o.below bq)).mono ?_);rintro x z ⟨rfl,hb2⟩;obtain⟨X,Z⟩:=YE hb2;have a2:w.1.size<z.1.size:=Yz hb2 oq;have H:w.1.size+1<z.1.size:=Yz hb2 oq;have a3:wr.1.size<z.1.size:=Yz hb2 oq;have j:=(hb2.block w.1.size oq).trans ((Z6 _ _ O).trans m.o);obtain⟨⟨y0,y1,y2,y3,y4,y5⟩,yf⟩:=Xl j;have g:=(hb2.block (w.1.size+1) oq).trans ((Z6 _ _ D).trans A.o);obtain⟨⟨z0,z1⟩,zf⟩:=UR g;have G:=hid g;clear j g);go_quiet (fail);go_wp2;go_ret2;exact⟨⟨ab,eb,hgd,rfl⟩,bq⟩
  rw[hv] at M;clear hv hgd;by_cases C:i=0
  .have al:((i:Int) == 0)=true:=by rw[beq_iff_eq];omega
   have hq:=fun w=>J2 p f p f w
   simp only[and_self,decide_true] at hq;have h2:ckL env (p,f) tl=ckA env args:=by rw[<-R C,hcka tl]
   have H2:=hid h2;have an:=hid C;clear R q hckl hcka C h2;go_wp2_with (go_at_call 133;(with_reducible refine(M.o _ _ _ _ (HE.o.below bq) (HM.o.below bq)).mono ?_);rintro x z ⟨rfl,hb2⟩;obtain⟨X,Z⟩:=YE hb2;have a2:w.1.size<z.1.size:=Yz hb2 oq;have H:w.1.size+1<z.1.size:=Yz hb2 oq;have a3:wr.1.size<z.1.size:=Yz hb2 oq;have j:=(hb2.block w.1.size oq).trans ((Z6 _ _ O).trans m.o);obtain⟨⟨y0,y1,y2,y3,y4,y5⟩,yf⟩:=Xl j;have g:=(hb2.block (w.1.size+1) oq).trans ((Z6 _ _ D).trans A.o);obtain⟨⟨z0,z1⟩,zf⟩:=UR g;have G:=hid g;clear j g);refine⟨⟨i+1,tl,p,f,by go_num,T.o.tail,fun h=>oq,fun _=>H2.o,?_,?_,bq⟩,by simp[intOf];omega⟩
   .exact(Below.block (show Below (w.1.size+1) wr _ from bq) _ oq).trans m.o
   exact(Z6 _ _ (by simpa [World.setCell] using H)).trans (set2 G.o)
  have al:((i:Int) == 0)=false:=by rw[ZZ];omega
  have J:=q C;rw[hckl (c1,c2) tl] at J;have am:=hid C;by_cases I:p=c1/\f=c2
  .obtain⟨rfl,rfl⟩:=I;have hq:=fun w=>J2 p f p f w
   simp only[and_self,decide_true] at hq;have H2:=hid (show ckL env (p,f) tl=ckA env args by rw[<-J];simp);clear R q hckl hcka C J;go_wp2_with (go_at_call 133;(with_reducible refine(M.o _ _ _ _ (HE.o.below bq) (HM.o.below bq)).mono ?_);rintro x z ⟨rfl,hb2⟩;obtain⟨X,Z⟩:=YE hb2;have a2:w.1.size<z.1.size:=Yz hb2 oq;have H:w.1.size+1<z.1.size:=Yz hb2 oq;have a3:wr.1.size<z.1.size:=Yz hb2 oq;have j:=(hb2.block w.1.size oq).trans ((Z6 _ _ O).trans m.o);obtain⟨⟨y0,y1,y2,y3,y4,y5⟩,yf⟩:=Xl j;have g:=(hb2.block (w.1.size+1) oq).trans ((Z6 _ _ D).trans A.o);obtain⟨⟨z0,z1⟩,zf⟩:=UR g;have G:=hid g;clear j g);refine⟨⟨i+1,tl,p,f,by go_num,T.o.tail,fun h=>oq,fun _=>H2.o,?_,?_,bq⟩,by simp[intOf];omega⟩
   .exact(Below.block (show Below (w.1.size+1) wr _ from bq) _ oq).trans m.o
   exact(Z6 _ _ H).trans G.o
  have hq:=fun w=>J2 p f c1 c2 w
  simp only[I,decide_false] at hq;have h1:r=false:=by
   rw[<-HR.o,<-J];have:¬((p,f)=(c1,c2)):=by intro e;injection e with e1 e2;exact I ⟨e1,e2⟩
   rw[Z0 this];rfl
  subst h1;have U:=hid I;clear R q hckl hcka C J I;go_wp2_with (go_at_call 133;(with_reducible refine(M.o _ _ _ _ (HE.o.below bq) (HM.o.below bq)).mono ?_);rintro x z ⟨rfl,hb2⟩;obtain⟨X,Z⟩:=YE hb2;have a2:w.1.size<z.1.size:=Yz hb2 oq;have H:w.1.size+1<z.1.size:=Yz hb2 oq;have a3:wr.1.size<z.1.size:=Yz hb2 oq;have j:=(hb2.block w.1.size oq).trans ((Z6 _ _ O).trans m.o);obtain⟨⟨y0,y1,y2,y3,y4,y5⟩,yf⟩:=Xl j;have g:=(hb2.block (w.1.size+1) oq).trans ((Z6 _ _ D).trans A.o);obtain⟨⟨z0,z1⟩,zf⟩:=UR g;have G:=hid g;clear j g)
  all_goals first|(exact(U.o ⟨rfl,rfl⟩).elim)|(exact(U.o ⟨by assumption,by assumption⟩).elim)|(exact(U.o ⟨by first|rfl|(symm;assumption),by first|rfl|(symm;assumption)⟩).elim)|(go_ret2;exact⟨⟨a,5,by decide,rfl⟩,bq⟩)
theorem Uz(w:World)(p f a e:Int)(g:Bool):(Instr.field 238 (.agg #[.int .i64 p,.int .i64 f,.bool g,.int .i64 a,.int .i64 e]) 0).run prog w=.ok (.agg #[.int .i64 p,.int .i64 f]) w:=by kernel_rfl
theorem J7{v:Value}(h:YT w mb L)(f:Xm nm L=some v) :
  (Instr.lookup 162 (.map (some mb)) (.string nm) false).run prog w=.ok v w:=by
 have:=Qa Xy h nm false;rw[f] at this;exact this
theorem ZfJ{f:Value}(h:w.1[b]?=some (.cells #[f] t (0,0))) :
  w.cell? ⟨b,0,none⟩=some f/\∀o,w.frozen? ⟨b,o,none⟩=false:=by
 refine⟨?_,?_⟩
 all_goals first|(intro o;simp[World.frozen?,h])|simp[World.cell?,h]
theorem set1{a u:Value}(h:w.1[r]?=some (.cells #[a] t (0,0))) :
  (w.setCell ⟨r,0,none⟩ u).1[r]?=some (.cells #[u] t (0,0)):=by
 have f:=Zb h;have g:w.1[r]=.cells #[a] t (0,0):=by simpa [Yo f] using h
 show(w.1.modify r _)[r]?=_;rw[Yo (by simpa using f),Array.getElem_modify_self,g];rfl
def Um(w:World)(rb:Nat)(r:Int):Prop:=w.1[rb]?=some (.cells #[.int .i64 r] 3 (0,0))
theorem Zdw(k n d a:Int)(nm:ByteArray)(v:Value)(f:Nat)(r:Int)(h:Um w f r)(q:1<=r)(y:r<=1000000) :
  Calls prog 131 #[.agg #[.int .i64 k,.string nm,.int .i64 n,.int .i64 d,v,.int .i64 a],.pointer (some ⟨f,0,none⟩)] w fun x w' =>
   x=.returned (.bool true)/\Um w' f (r-1)/\Upon f w w':=by
 have H:=hid h;obtain⟨c0,m⟩:=ZfJ h;have g:=Zb h;have hd:decide ((0:Int)<=r-1)=true:=by simp;omega
 have j:(0:Int)<=r-1:=oq;clear h;go_enter func131,ntmps131;go_wp2;go_ret;refine⟨by simp,?_,?_⟩
 .exact(Z6 _ _ (by simpa [World.setCell] using g)).trans (set1 H.o)
 exact(by repeat (first|(with_reducible exact Upon.refl _ _)|((with_reducible refine Upon.setAt ?_ ?_ _);(rotate_left;focus (first|exact Or.inl rfl|omega|(simp;done)|(simp;omega))))|(with_reducible refine Upon.alloc ?_ _)|(with_reducible refine Upon.drewN ?_ _)|(with_reducible refine Upon.drew ?_)))
def j9(rb:Nat):Value:=.func (.func 131) #[] #[.pointer (some ⟨rb,0,none⟩)]
def Gz(e:PE):Prop:=∀(W0 w:World)(ad:OA)(cap rb:Nat)(r:Int),AE W0 e ad cap->Below W0.1.size W0 w->W0.1.size<=rb->Um w rb r->(e.args.sz:Int)+1<=r->r<=1000000 ->
 Calls prog 132 #[.agg #[.int .i64 e.k,.string e.nm,.int .i64 e.n,.int .i64 e.d,.slice ad e.args.len cap,.int .i64 e.a],j9 rb] w fun x w' =>
  x=.returned (.bool true)/\Um w' rb (r-(e.args.sz+1))/\Upon rb w w'
def ZgY(W0 w:World)(e:PE)(ad:OA)(rb:Nat)(r:Int)(v:Value)(wr:World):Prop :=
 ∃(i:Nat)(rest:PL)(rr:Int),v=.int .i64 (i:Int)/\Qo W0 ad e.args rest i/\Um wr rb rr/\rr-rest.sz=r-(e.args.sz+1)/\Upon rb w wr
theorem kC(e:PE)(ih:∀e':PE,e'.args.sz<e.args.sz->Gz e'):Gz e:=by
 intro U w ad cap rb r I hb ac A ao bb;obtain⟨k,nm,n,d,args,a⟩:=e;have aa:=I.len;simp only at aa ao ⊢;have HA:=hid I;have O:=hid hb;have ai:=hid A;have ag:=hid ih;have ah:=hid (Zb A);have az:=Zb A;have av:=hb.size;clear I hb A ih;unfold j9;have HT:=hid (fun w v=>Zdw (w:=w) k n d a nm v rb r);have ba:¬w.1.size=rb:=oq;have au:¬rb=w.1.size:=oq;go_enter func132,ntmps132;go_wp2_with (go_at_call 131;refine(HT.o _ _ ((Z6 _ _ ah.o).trans ai.o) oq oq).mono ?_;rintro x w1 ⟨rfl,H,D⟩;obtain⟨ax,ay⟩:=Zhj D;have b1:w.1.size<w1.1.size:=Zd oq D.size);have ak:=hid D;have R:=hid H;clear D H;go_loopw [14] (fun v wr=>Hid (ZgY U w ⟨k,nm,n,d,args,a⟩ ad rb r v wr)) (fun i _=>args.len-(intOf i).toNat)
 case atStart=>exact⟨0,args,r-1,rfl,Qo.start HA.o.args,R.o,by simp only;omega,((Upon.refl _ _).alloc _).trans ak.o⟩
 obtain⟨i,rest,rr,rfl,f,g,C,E⟩:=hrel.o;clear hrel;simp only at C;have T:=hid E;have j:=hid g;have M:=f.1;simp only at M;have L:Below U.1.size U wr:=O.o.trans (E.below O.o.size ac);have m:=hid f;have aj:=hid (f.below L);have HBW:=hid L;have ab:=Zb g;have aw:=E.size;clear E g f L
 cases rest with
 | nil =>
  have Z:(i:Int)=(args.len:Int):=by simp only[PL.len] at M;omega
  simp only[PL.sz] at C;go_wp2;go_ret;refine⟨rfl,?_,T.o⟩;have e1:rr=r-(↑args.sz+1):=by simpa using C
  rw[<-e1];exact j.o
 | cons k1 nm1 n1 d1 args1 a1 tl =>
  have Z:(i:Int)<(args.len:Int):=by simp only[PL.len] at M;omega
  have z:=m.o.2.2.resolve_left (by intro h;cases h);obtain⟨b,o,rfl,hb,h0,h1,h2,h3,h5,hn,⟨V,F,h4,am,ar,an⟩,ht⟩:=aj.o.2.2.resolve_left (by intro h;cases h);obtain⟨b',o',J,Y,g0,g1,g2,g3,g5,gn,⟨aq,al,g4,q,G,X⟩,gt⟩:=z;injection J with J;injection J with hbo1 hbo2;subst hbo1;subst hbo2
  have af:=m.o.2.1;simp only[PL.sz] at af C;have y:=(HBW.o.cell (p:=⟨b,o+i*6+4,none⟩) Y).trans g4;rw[h4] at y;injection y with y;injection y with he1 he2 he3
  subst he1;subst he3;have HE:=hid (show AE U ⟨k1,nm1,n1,d1,args1,a1⟩ V F from ⟨gn,⟨q,G⟩,X⟩);have HC:=hid (fun w' hb hr=>ag.o ⟨k1,nm1,n1,d1,args1,a1⟩ (by show args1.sz<args.sz;omega) U w' V F rb rr HE.o hb ac hr (by show(args1.sz:Int)+1<=rr;omega) oq);unfold j9 at HC;simp only at HC;clear hn an ht g0 g1 g2 g3 g5 gn g4 X gt q G Y;go_wp2_with (go_at_call 132;go_loud (refine(HC.o _ (HBW.o.trans (Below.mono (show Below wr.1.size wr _ from bq) HBW.o.size)) ((Z6 _ _ ab).trans j.o)).mono ?_;rintro x w2 ⟨rfl,ae,ap⟩));refine⟨⟨i+1,tl,rr-(args1.sz+1),by go_num,m.o.tail,ae,by simp only;omega,(T.o.alloc _).trans ap⟩,by simp[intOf];omega⟩
theorem yv(e:PE):Gz e:=by
 suffices h:∀(N:Nat)(e:PE),e.args.sz<N->Gz e from h _ e (ZX _)
 intro N
 induction N with
 | zero=>intro e h;omega
 | succ N ih=>intro e h;exact kC e (fun e' h'=>ih e' oq)
