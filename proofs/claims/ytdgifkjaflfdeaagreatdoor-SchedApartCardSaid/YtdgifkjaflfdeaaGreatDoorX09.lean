/- Parts of the proof. -/
import Derived.Deep.CutBlock
import Derived.Deep.DeepCutAuto
import Derived.Test.YtdgifkjaflfdeaaGreatDoorX04
set_option linter.all false
set_option maxRecDepth 100000
set_option maxHeartbeats 16000000
namespace Go.Proofs.YtdgifkjaflfdeaaGreatDoor.syn
open Tryz
open Go.RowKit
variable {nm:ByteArray}{k n d:Int}{len:Nat}
def exE(k n d:Int)(nm:ByteArray)(len:Nat):Bool :=
 if k=1 then XP nm&&decide (len=0)&&decide (n=0)&&decide (d=0)
 else if k=2 then XP nm&&decide (1<=len)&&decide (len<=6)&&decide (n=0)&&decide (d=0)
 else if len≠1\/nm≠⟨#[]⟩\/(d≠0/\k≠5) then false
 else if k=3\/k=4 then inB n 1 100
 else if k=5 then inB n 0 100&&inB d 1 100
 else if k=6\/k=8 then inB n (-1000000000) 1000000000
 else decide (k=7)&&decide (n=0)
def exR:PL->Bool
 | .nil=>true
 | .cons k nm n d args _ tl=>(exR args&&exE k n d nm args.len)&&exR tl
def YF(e:PE):Bool:=exR e.args&&exE e.k e.n e.d e.nm e.args.len
def UF(e:PE):Prop:=∀(w:World)(ad:OA)(cap:Nat),AE w e ad cap ->
 Calls prog 70 #[ev e ad cap] w fun x w'=>x=.returned (.bool (YF e))/\Below w.1.size w w'
def ZgF(w:World)(e:PE)(ad:OA)(cap:Nat)(v3:Value)(wr:World):Prop :=
 ∃(i:Nat)(rest:PL),v3=.int .i64 (i:Int)/\Rest wr ad e.args rest i/\exR rest=exR e.args /\
  wr.1[w.1.size]?=some (.cells #[.int .i64 e.k,.string e.nm,.int .i64 e.n,.int .i64 e.d,.slice ad e.args.len cap,.int .i64 e.a] 111 (0,0))/\Below w.1.size w wr
theorem Zer(f:nm≠⟨#[]⟩):nm.data.toList≠[]:=by
 intro h;apply f;obtain⟨⟨l⟩⟩:=nm;simp at h;subst h;rfl
theorem Zed(f:k≠1)(g:k≠2)(h:len≠1):exE k n d nm len=false:=by
 unfold exE;rw[Z2 f,Z2 g,Z3 (Or.inl h)]
theorem ZfO(f:k≠1)(g:k≠2)(h:nm≠⟨#[]⟩):exE k n d nm len=false:=by
 unfold exE;rw[Z2 f,Z2 g,Z3 (Or.inr (Or.inl h))]
theorem Zam(e:PE)(ih:∀e':PE,e'.args.sz<e.args.sz->UF e'):UF e:=by
 intro w ad cap V;obtain⟨k,U,n,d,args,a⟩:=e;have aq:=V.len;have ar:=V.nums.2.2.2.2;simp only at aq ar;have av:=hid V;have aw:=hid ih;clear V ih;unfold ev;simp only;obtain⟨fin,R⟩:=ez (YF ⟨k,U,n,d,args,a⟩);rw[R];have HF:=hid (show(exR args&&exE k n d U args.len)=fin from R);clear R;go_enter func70,ntmps70;go_wp2;go_loopw [3] (fun v3 wr=>Hid (ZgF w ⟨k,U,n,d,args,a⟩ ad cap v3 wr)) (fun i _=>args.len-(intOf i).toNat)
 case atStart=>exact⟨0,args,rfl,(Rest.start av.o.args).below bq,rfl,Yx w _,bq⟩
 obtain⟨i,rest,rfl,G,Z,H,hbel⟩:=hrel.o;clear hrel;obtain⟨⟨x0,x1,x2,x3,x4,x5⟩,xf⟩:=Xl H;have af:=hid H;have HBEL:=hid hbel;have X:=G.1;simp only at X;have ay:=Zb H;have bp:=hbel.size;have HR:=hid G;clear H hbel G
 cases rest with
 | cons k1 nm1 n1 d1 args1 a1 tl =>
  have E:=hid Z;clear Z;have ba:(i:Int)<(args.len:Int):=by simp only[PL.len] at X;omega
  obtain⟨b,o,rfl,hb,h0,h1,h2,h3,h5,hn,⟨ax,ah,h4,ac,ai,J⟩,ht⟩:=HR.o.2.2.resolve_left (by intro h;cases h);have au:=HR.o.2.1;simp only[PL.sz] at au;have HC:=hid (aw.o ⟨k1,nm1,n1,d1,args1,a1⟩ (by show args1.sz<args.sz;omega) wr ax ah ⟨hn,⟨ac,ai⟩,J⟩);unfold ev at HC;simp only at HC
  cases hbb:YF ⟨k1,nm1,n1,d1,args1,a1⟩ with
  | true =>
   rw[hbb] at HC;have ab:=hid (show exR tl=exR args from by
    have h:=E.o;rw[exR,show(exR args1&&exE k1 n1 d1 nm1 args1.len)=true from hbb,Bool.true_and] at h;exact h)
   clear hbb ht hn J;go_wp2_with (go_at_call 70;refine HC.o.mono ?_;rintro e f ⟨rfl,hb2⟩);go_roundw
   case rel=>exact⟨i+1,tl,by go_num,HR.o.tail.below hb2,ab.o,(hb2.block _ ay).trans af.o,bq⟩
   simp[intOf];omega
  | false =>
   rw[hbb] at HC;have ab:=hid (show exR args=false from by
    have h:=E.o;rw[exR,show(exR args1&&exE k1 n1 d1 nm1 args1.len)=false from hbb,Bool.false_and] at h;exact h.symm)
   clear hbb ht hn J;go_wp2_with (go_at_call 70;refine HC.o.mono ?_;rintro e f ⟨rfl,hb2⟩);go_ret;exact⟨YK (by rw[<-HF.o,ab.o];rfl),bq⟩
 | nil =>
  obtain rfl:i=args.len:=by simp only[PL.len] at X;omega
  have E:=hid (show true=exR args from Z);have g:=hid (fun w=>Qc U w ar);have v:=hid (fun w=>XQ n 1 100 w);have j:=hid (fun w=>XQ n 0 100 w);have x:=hid (fun w=>XQ n (-1000000000) 1000000000 w);have q:=hid (fun w=>XQ d 1 100 w);clear Z X;obtain⟨wo,rfl⟩:=ey wr;obtain⟨pl,T⟩:∃pl,decide (n=0/\d=0)=pl:=⟨_,rfl⟩;go_upto_region 6 with fail
  go_cut [4] (fun s4 W=>Hid (s4=.bool pl/\W=wo))
  case first =>
   by_cases F:n=0
   .by_cases m:d=0
    .obtain rfl:pl=true:=T.symm.trans (Z1 ⟨F,m⟩);subst F;subst m;go_wp2_with fail;go_meet;exact hid ⟨rfl,rfl⟩
    obtain rfl:pl=false:=T.symm.trans (Z0 (fun h=>m h.2));have J:(d == 0)=false:=ZZ.2 m;subst F;go_wp2_with fail;go_meet;exact hid ⟨rfl,rfl⟩
   obtain rfl:pl=false:=T.symm.trans (Z0 (fun h=>F h.1));have az:(n == 0)=false:=ZZ.2 F;go_wp2_with fail;go_meet;exact hid ⟨rfl,rfl⟩
  obtain⟨rfl,rfl⟩:=hcut.o;clear hcut;have ag:=hid T;clear T;by_cases L:k=1
  .subst L
   cases hno:XP U<;>by_cases C:args.len=0
   all_goals (rw[hno] at g;first|have O:((args.len:Int) == 0)=true:=(by rw[beq_iff_eq];omega)|have O:((args.len:Int) == 0)=false:=(by rw[ZZ];omega))
   all_goals (have y:=hid C;clear C;go_wp2_with (first|(go_at_call 65;refine(g.o _).mono ?_;rintro e f ⟨rfl,hb2⟩;obtain⟨z,A⟩:=YE hb2;have HB2:=hid hb2;clear hb2)|(go_at_call 66;(with_reducible refine(j.o _).mono ?_);rintro e f ⟨rfl,rfl⟩)|(go_at_call 66;(with_reducible refine(x.o _).mono ?_);rintro e f ⟨rfl,rfl⟩)|(go_at_call 66;(with_reducible refine(v.o _).mono ?_);rintro e f ⟨rfl,rfl⟩)|(go_at_call 66;(with_reducible refine(q.o _).mono ?_);rintro e f ⟨rfl,rfl⟩));all_goals (first|(exfalso;have D:=y.o;omega)|(go_ret;exact⟨YK (by rw[<-HF.o,<-E.o];first|(rw[<-ag.o];simp[exE,hno,y.o];done)|simp[exE,hno,y.o]),bq⟩)))
  have bb:(k == 1)=false:=ZZ.2 L;by_cases M:k=2
  .subst M
   cases hno:XP U<;>by_cases C:1<=args.len<;>by_cases ap:args.len<=6
   all_goals (rw[hno] at g;have y:=hid (Zh C ap);first|(have O:(1:Int)<=(args.len:Int):=oq)|(have O:(args.len:Int)<1:=oq;have bn:decide ((1:Int)<=(args.len:Int))=false:=(by simpa using O)))
   all_goals (first|(have ao:(args.len:Int)<=6:=oq)|(have ao:(6:Int)<(args.len:Int):=oq;have bo:decide ((args.len:Int)<=6)=false:=(by simpa using ao)))
   all_goals (clear C ap;go_wp2_with (first|(go_at_call 65;refine(g.o _).mono ?_;rintro e f ⟨rfl,hb2⟩;obtain⟨z,A⟩:=YE hb2;have HB2:=hid hb2;clear hb2)|(go_at_call 66;(with_reducible refine(j.o _).mono ?_);rintro e f ⟨rfl,rfl⟩)|(go_at_call 66;(with_reducible refine(x.o _).mono ?_);rintro e f ⟨rfl,rfl⟩)|(go_at_call 66;(with_reducible refine(v.o _).mono ?_);rintro e f ⟨rfl,rfl⟩)|(go_at_call 66;(with_reducible refine(q.o _).mono ?_);rintro e f ⟨rfl,rfl⟩));all_goals (first|(exfalso;have D:=y.o;omega)|(go_ret;exact⟨YK (by rw[<-HF.o,<-E.o];first|(rw[<-ag.o];simp[exE,hno,y.o.1,y.o.2];done)|simp[exE,hno,y.o.1,y.o.2]),bq⟩)))
  have bc:(k == 2)=false:=ZZ.2 M;by_cases C:args.len=1
  .have O:((args.len:Int) == 1)=true:=by rw[beq_iff_eq];omega
   have y:=hid C;clear C;by_cases he:U=⟨#[]⟩
   .subst he;have aa:∀b:Bool,(if k=3\/k=4 then inB n 1 100 else if k=5 then inB n 0 100&&inB d 1 100 else if k=6\/k=8 then inB n (-1000000000) 1000000000 else decide (k=7)&&decide (n=0))=b->¬(d≠0/\k≠5)->b=fin:=fun b hb hd=>by
     have hc:¬(args.len≠1\/(⟨#[]⟩:ByteArray)≠⟨#[]⟩\/(d≠0/\k≠5)):=fun h=>by
      rcases h with h|h|h
      .exact h y.o
      .exact h rfl
      exact hd h
     rw[<-HF.o,<-E.o,Bool.true_and];unfold exE;rw[Z2 L,Z2 M,Z2 hc];exact hb.symm
    have I:=hid aa;clear aa;by_cases Y:k=5
    .subst Y
     cases hib:inB n 0 100<;>by_cases m:d=0
     all_goals (rw[hib] at j;first|have J:(d == 0)=false:=ZZ.2 m|subst m)
     all_goals (go_wp2_with (first|(go_at_call 65;refine(g.o _).mono ?_;rintro e f ⟨rfl,hb2⟩;obtain⟨z,A⟩:=YE hb2;have HB2:=hid hb2;clear hb2)|(go_at_call 66;(with_reducible refine(j.o _).mono ?_);rintro e f ⟨rfl,rfl⟩)|(go_at_call 66;(with_reducible refine(x.o _).mono ?_);rintro e f ⟨rfl,rfl⟩)|(go_at_call 66;(with_reducible refine(v.o _).mono ?_);rintro e f ⟨rfl,rfl⟩)|(go_at_call 66;(with_reducible refine(q.o _).mono ?_);rintro e f ⟨rfl,rfl⟩));all_goals (first|(exfalso;have D:=y.o;omega)|(go_ret;exact⟨YK (I.o _ (by simp[hib]) (by simp)),bq⟩)))
    have bf:(k == 5)=false:=ZZ.2 Y;by_cases m:d=0
    .subst m;by_cases aj:k=3
     .subst aj;go_wp2_with (first|(go_at_call 65;refine(g.o _).mono ?_;rintro e f ⟨rfl,hb2⟩;obtain⟨z,A⟩:=YE hb2;have HB2:=hid hb2;clear hb2)|(go_at_call 66;(with_reducible refine(j.o _).mono ?_);rintro e f ⟨rfl,rfl⟩)|(go_at_call 66;(with_reducible refine(x.o _).mono ?_);rintro e f ⟨rfl,rfl⟩)|(go_at_call 66;(with_reducible refine(v.o _).mono ?_);rintro e f ⟨rfl,rfl⟩)|(go_at_call 66;(with_reducible refine(q.o _).mono ?_);rintro e f ⟨rfl,rfl⟩))
      all_goals (first|(exfalso;have D:=y.o;omega)|(go_ret;exact⟨YK (I.o _ (by simp) (by simp)),bq⟩))
     have bd:(k == 3)=false:=ZZ.2 aj;by_cases ak:k=4
     .subst ak;go_wp2_with (first|(go_at_call 65;refine(g.o _).mono ?_;rintro e f ⟨rfl,hb2⟩;obtain⟨z,A⟩:=YE hb2;have HB2:=hid hb2;clear hb2)|(go_at_call 66;(with_reducible refine(j.o _).mono ?_);rintro e f ⟨rfl,rfl⟩)|(go_at_call 66;(with_reducible refine(x.o _).mono ?_);rintro e f ⟨rfl,rfl⟩)|(go_at_call 66;(with_reducible refine(v.o _).mono ?_);rintro e f ⟨rfl,rfl⟩)|(go_at_call 66;(with_reducible refine(q.o _).mono ?_);rintro e f ⟨rfl,rfl⟩))
      all_goals (first|(exfalso;have D:=y.o;omega)|(go_ret;exact⟨YK (I.o _ (by simp) (by simp)),bq⟩))
     have be:(k == 4)=false:=ZZ.2 ak;by_cases al:k=6
     .subst al;go_wp2_with (first|(go_at_call 65;refine(g.o _).mono ?_;rintro e f ⟨rfl,hb2⟩;obtain⟨z,A⟩:=YE hb2;have HB2:=hid hb2;clear hb2)|(go_at_call 66;(with_reducible refine(j.o _).mono ?_);rintro e f ⟨rfl,rfl⟩)|(go_at_call 66;(with_reducible refine(x.o _).mono ?_);rintro e f ⟨rfl,rfl⟩)|(go_at_call 66;(with_reducible refine(v.o _).mono ?_);rintro e f ⟨rfl,rfl⟩)|(go_at_call 66;(with_reducible refine(q.o _).mono ?_);rintro e f ⟨rfl,rfl⟩))
      all_goals (first|(exfalso;have D:=y.o;omega)|(go_ret;exact⟨YK (I.o _ (by simp) (by simp)),bq⟩))
     have bh:(k == 6)=false:=ZZ.2 al;by_cases an:k=8
     .subst an;go_wp2_with (first|(go_at_call 65;refine(g.o _).mono ?_;rintro e f ⟨rfl,hb2⟩;obtain⟨z,A⟩:=YE hb2;have HB2:=hid hb2;clear hb2)|(go_at_call 66;(with_reducible refine(j.o _).mono ?_);rintro e f ⟨rfl,rfl⟩)|(go_at_call 66;(with_reducible refine(x.o _).mono ?_);rintro e f ⟨rfl,rfl⟩)|(go_at_call 66;(with_reducible refine(v.o _).mono ?_);rintro e f ⟨rfl,rfl⟩)|(go_at_call 66;(with_reducible refine(q.o _).mono ?_);rintro e f ⟨rfl,rfl⟩))
      all_goals (first|(exfalso;have D:=y.o;omega)|(go_ret;exact⟨YK (I.o _ (by simp) (by simp)),bq⟩))
     have bj:(k == 8)=false:=ZZ.2 an;by_cases am:k=7<;>by_cases F:n=0
     all_goals (first|have bi:(k == 7)=false:=ZZ.2 am|subst am)
     all_goals (first|have az:(n == 0)=false:=ZZ.2 F|subst F)
     all_goals (go_wp2_with (first|(go_at_call 65;refine(g.o _).mono ?_;rintro e f ⟨rfl,hb2⟩;obtain⟨z,A⟩:=YE hb2;have HB2:=hid hb2;clear hb2)|(go_at_call 66;(with_reducible refine(j.o _).mono ?_);rintro e f ⟨rfl,rfl⟩)|(go_at_call 66;(with_reducible refine(x.o _).mono ?_);rintro e f ⟨rfl,rfl⟩)|(go_at_call 66;(with_reducible refine(v.o _).mono ?_);rintro e f ⟨rfl,rfl⟩)|(go_at_call 66;(with_reducible refine(q.o _).mono ?_);rintro e f ⟨rfl,rfl⟩));all_goals (first|(exfalso;have D:=y.o;omega)|(exfalso;rename_i hx;have br:=eq_of_beq hx;omega)|(go_ret;exact⟨YK (I.o _ (by simp[*]) (by simp)),bq⟩)))
    have J:(d == 0)=false:=ZZ.2 m;have bk:(d != 0)=true:=bne_iff_ne.2 m;have bg:(k != 5)=true:=bne_iff_ne.2 Y;go_wp2_with (first|(go_at_call 65;refine(g.o _).mono ?_;rintro e f ⟨rfl,hb2⟩;obtain⟨z,A⟩:=YE hb2;have HB2:=hid hb2;clear hb2)|(go_at_call 66;(with_reducible refine(j.o _).mono ?_);rintro e f ⟨rfl,rfl⟩)|(go_at_call 66;(with_reducible refine(x.o _).mono ?_);rintro e f ⟨rfl,rfl⟩)|(go_at_call 66;(with_reducible refine(v.o _).mono ?_);rintro e f ⟨rfl,rfl⟩)|(go_at_call 66;(with_reducible refine(q.o _).mono ?_);rintro e f ⟨rfl,rfl⟩))
    all_goals (first|(exfalso;have D:=y.o;omega)|(go_ret;exact⟨YK (by rw[<-HF.o,<-E.o];simp[exE,L,M,m,Y]),bq⟩))
   have ae:U.data.toList≠[]:=Zer he;have bl:U.toList.isEmpty=false:=by rw[Lib.toList_data];simpa using ae
   have bm:¬U.toList=[]:=by rw[Lib.toList_data];exact ae
   have HE:=hid he;clear he ae;go_wp2_with (first|(go_at_call 65;refine(g.o _).mono ?_;rintro e f ⟨rfl,hb2⟩;obtain⟨z,A⟩:=YE hb2;have HB2:=hid hb2;clear hb2)|(go_at_call 66;(with_reducible refine(j.o _).mono ?_);rintro e f ⟨rfl,rfl⟩)|(go_at_call 66;(with_reducible refine(x.o _).mono ?_);rintro e f ⟨rfl,rfl⟩)|(go_at_call 66;(with_reducible refine(v.o _).mono ?_);rintro e f ⟨rfl,rfl⟩)|(go_at_call 66;(with_reducible refine(q.o _).mono ?_);rintro e f ⟨rfl,rfl⟩))
   all_goals (first|(exfalso;have D:=y.o;omega)|(go_ret;exact⟨YK (by rw[<-HF.o,<-E.o];rw[ZfO L M HE.o];rfl),bq⟩))
  have O:((args.len:Int) == 1)=false:=by rw[ZZ];omega
  have y:=hid C;clear C;go_wp2_with (first|(go_at_call 65;refine(g.o _).mono ?_;rintro e f ⟨rfl,hb2⟩;obtain⟨z,A⟩:=YE hb2;have HB2:=hid hb2;clear hb2)|(go_at_call 66;(with_reducible refine(j.o _).mono ?_);rintro e f ⟨rfl,rfl⟩)|(go_at_call 66;(with_reducible refine(x.o _).mono ?_);rintro e f ⟨rfl,rfl⟩)|(go_at_call 66;(with_reducible refine(v.o _).mono ?_);rintro e f ⟨rfl,rfl⟩)|(go_at_call 66;(with_reducible refine(q.o _).mono ?_);rintro e f ⟨rfl,rfl⟩))
  all_goals (first|(exfalso;have D:=y.o;omega)|(go_ret;exact⟨YK (by rw[<-HF.o,<-E.o];rw[Zed L M y.o];rfl),bq⟩))
theorem Zb2(e:PE):UF e:=by
 suffices h:∀(N:Nat)(e:PE),e.args.sz<N->UF e from h _ e (ZX _)
 intro N
 induction N with
 | zero=>intro e h;omega
 | succ N ih=>intro e h;exact Zam e (fun e' h'=>ih e' oq)
