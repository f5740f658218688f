/- Parts of the proof. -/
import Derived.Deep.CutBlock
import Derived.Deep.DeepCutAuto
import Derived.Test.YtdgifkjaflfdeaaGreatDoorV04
set_option linter.all false
set_option maxRecDepth 100000
set_option maxHeartbeats 16000000
namespace Go.Proofs.YtdgifkjaflfdeaaGreatDoor.syn
open Tryz
open Go.RowKit
def exE(k n d:Int)(nm:ByteArray)(len:Nat):Bool :=
 if k=1 then XJ nm&&decide (len=0)&&decide (n=0)&&decide (d=0)
 else if k=2 then XJ nm&&decide (1≤len)&&decide (len≤6)&&decide (n=0)&&decide (d=0)
 else if len≠1∨nm≠⟨#[]⟩∨(d≠0∧k≠5) then false
 else if k=3∨k=4 then inB n 1 100
 else if k=5 then inB n 0 100&&inB d 1 100
 else if k=6∨k=8 then inB n (-1000000000) 1000000000
 else decide (k=7)&&decide (n=0)
def exR:PL→Bool
 | .nil=>true
 | .cons k nm n d args _ tl=>(exR args&&exE k n d nm args.len)&&exR tl
def YA(e:PE):Bool:=exR e.args&&exE e.k e.n e.d e.nm e.args.len
def UB(e:PE):Prop:=∀(w:World)(ad:Option Addr)(cap:Nat),AE w e ad cap →
 Calls prog 70 #[ev e ad cap] w fun x w'=>x=.returned (.bool (YA e))∧Below w.heap.size w w'
def Zgj(w:World)(e:PE)(ad:Option Addr)(cap:Nat)(v3:Value)(wr:World):Prop :=
 ∃(i:Nat)(rest:PL),v3=.int .i64 (i:Int)∧Rest wr ad e.args rest i∧exR rest=exR e.args ∧
  wr.heap[w.heap.size]?=some (.cells #[.int .i64 e.k,.string e.nm,.int .i64 e.n,.int .i64 e.d,.slice ad e.args.len cap,.int .i64 e.a] 111 (0,0))∧Below w.heap.size w wr
theorem Zd3{nm:ByteArray}(f:nm≠⟨#[]⟩):nm.data.toList≠[]:=by
 intro h;apply f;obtain⟨⟨l⟩⟩:=nm;simp at h;subst h;rfl
theorem ZdS{k n d:Int}{nm:ByteArray}{len:Nat}(f:k≠1)(g:k≠2)(h:len≠1):exE k n d nm len=false:=by
 unfold exE;rw[ZZ f,ZZ g,Z0 (Or.inl h)]
theorem Zfm{k n d:Int}{nm:ByteArray}{len:Nat}(f:k≠1)(g:k≠2)(h:nm≠⟨#[]⟩):exE k n d nm len=false:=by
 unfold exE;rw[ZZ f,ZZ g,Z0 (Or.inr (Or.inl h))]
theorem e8(e:PE)(ih:∀e':PE,e'.args.sz<e.args.sz→UB e'):UB e:=by
 intro w ad cap V;obtain⟨k,U,n,d,args,a⟩:=e;have aq:=V.len;have ar:=V.nums.2.2.2.2;simp only at aq ar;have av:=hid V;have aw:=hid ih;clear V ih;unfold ev;simp only;obtain⟨fin,R⟩:=ez (YA ⟨k,U,n,d,args,a⟩);rw[R];have HF:=hid (show(exR args&&exE k n d U args.len)=fin from R);clear R;go_enter func70,ntmps70;go_wp2;go_loopw [3] (fun v3 wr=>Hid (Zgj w ⟨k,U,n,d,args,a⟩ ad cap v3 wr)) (fun i _=>args.len-(intOf i).toNat)
 case atStart=>exact⟨0,args,rfl,(Rest.start av.out.args).below bq,rfl,Yw w _,bq⟩
 obtain⟨i,rest,rfl,G,Z,H,hbel⟩:=hrel.out;clear hrel;obtain⟨⟨x0,x1,x2,x3,x4,x5⟩,xf⟩:=YV H;have af:=hid H;have HBEL:=hid hbel;have X:=G.1;simp only at X;have ay:=Zb H;have bp:=hbel.size;have HR:=hid G;clear H hbel G
 cases rest with
 | cons k1 nm1 n1 d1 args1 a1 tl =>
  have E:=hid Z;clear Z;have ba:(i:Int)<(args.len:Int):=by simp only[PL.len] at X;omega
  obtain⟨b,o,rfl,hb,h0,h1,h2,h3,h5,hn,⟨ax,ah,h4,ac,ai,J⟩,ht⟩:=HR.out.2.2.resolve_left (by intro h;cases h);have au:=HR.out.2.1;simp only[PL.sz] at au;have HC:=hid (aw.out ⟨k1,nm1,n1,d1,args1,a1⟩ (by show args1.sz<args.sz;omega) wr ax ah ⟨hn,⟨ac,ai⟩,J⟩);unfold ev at HC;simp only at HC
  cases hbb:YA ⟨k1,nm1,n1,d1,args1,a1⟩ with
  | true =>
   rw[hbb] at HC;have ab:=hid (show exR tl=exR args from by
    have h:=E.out;rw[exR,show(exR args1&&exE k1 n1 d1 nm1 args1.len)=true from hbb,Bool.true_and] at h;exact h)
   clear hbb ht hn J;go_wp2_with (go_at_call 70;refine HC.out.mono ?_;rintro e f ⟨rfl,hb2⟩);go_roundw
   case rel=>exact⟨i+1,tl,by go_num,HR.out.tail.below hb2,ab.out,(hb2.block _ ay).trans af.out,bq⟩
   simp[intOf];omega
  | false =>
   rw[hbb] at HC;have ab:=hid (show exR args=false from by
    have h:=E.out;rw[exR,show(exR args1&&exE k1 n1 d1 nm1 args1.len)=false from hbb,Bool.false_and] at h;exact h.symm)
   clear hbb ht hn J;go_wp2_with (go_at_call 70;refine HC.out.mono ?_;rintro e f ⟨rfl,hb2⟩);go_ret;exact⟨YH (by rw[←HF.out,ab.out];rfl),bq⟩
 | nil =>
  obtain rfl:i=args.len:=by simp only[PL.len] at X;omega
  have E:=hid (show true=exR args from Z);have g:=hid (fun w=>X6 U w ar);have v:=hid (fun w=>XK n 1 100 w);have j:=hid (fun w=>XK n 0 100 w);have x:=hid (fun w=>XK n (-1000000000) 1000000000 w);have q:=hid (fun w=>XK d 1 100 w);clear Z X;obtain⟨wo,rfl⟩:=ey wr;obtain⟨pl,T⟩:∃pl,decide (n=0∧d=0)=pl:=⟨_,rfl⟩;go_upto_region 6 with fail
  go_cut [4] (fun s4 W=>Hid (s4=.bool pl∧W=wo))
  case first =>
   by_cases F:n=0
   ·by_cases m:d=0
    ·obtain rfl:pl=true:=T.symm.trans (ZY ⟨F,m⟩);subst F;subst m;go_wp2_with fail;go_meet;exact hid ⟨rfl,rfl⟩
    obtain rfl:pl=false:=T.symm.trans (ZX (fun h=>m h.2));have J:(d == 0)=false:=ZW.2 m;subst F;go_wp2_with fail;go_meet;exact hid ⟨rfl,rfl⟩
   obtain rfl:pl=false:=T.symm.trans (ZX (fun h=>F h.1));have az:(n == 0)=false:=ZW.2 F;go_wp2_with fail;go_meet;exact hid ⟨rfl,rfl⟩
  obtain⟨rfl,rfl⟩:=hcut.out;clear hcut;have ag:=hid T;clear T;by_cases L:k=1
  ·subst L
   cases hno:XJ U<;>by_cases C:args.len=0
   all_goals (rw[hno] at g;first|have O:((args.len:Int) == 0)=true:=(by rw[beq_iff_eq];omega)|have O:((args.len:Int) == 0)=false:=(by rw[ZW];omega))
   all_goals (have y:=hid C;clear C;go_wp2_with (first|(go_at_call 65;refine(g.out _).mono ?_;rintro e f ⟨rfl,hb2⟩;obtain⟨z,A⟩:=YB hb2;have HB2:=hid hb2;clear hb2)|(go_at_call 66;(with_reducible refine(j.out _).mono ?_);rintro e f ⟨rfl,rfl⟩)|(go_at_call 66;(with_reducible refine(x.out _).mono ?_);rintro e f ⟨rfl,rfl⟩)|(go_at_call 66;(with_reducible refine(v.out _).mono ?_);rintro e f ⟨rfl,rfl⟩)|(go_at_call 66;(with_reducible refine(q.out _).mono ?_);rintro e f ⟨rfl,rfl⟩));all_goals (first|(exfalso;have D:=y.out;omega)|(go_ret;exact⟨YH (by rw[←HF.out,←E.out];first|(rw[←ag.out];simp[exE,hno,y.out];done)|simp[exE,hno,y.out]),bq⟩)))
  have bb:(k == 1)=false:=ZW.2 L;by_cases M:k=2
  ·subst M
   cases hno:XJ U<;>by_cases C:1≤args.len<;>by_cases ap:args.len≤6
   all_goals (rw[hno] at g;have y:=hid (Zh C ap);first|(have O:(1:Int)≤(args.len:Int):=oq)|(have O:(args.len:Int)<1:=oq;have bn:decide ((1:Int)≤(args.len:Int))=false:=(by simpa using O)))
   all_goals (first|(have ao:(args.len:Int)≤6:=oq)|(have ao:(6:Int)<(args.len:Int):=oq;have bo:decide ((args.len:Int)≤6)=false:=(by simpa using ao)))
   all_goals (clear C ap;go_wp2_with (first|(go_at_call 65;refine(g.out _).mono ?_;rintro e f ⟨rfl,hb2⟩;obtain⟨z,A⟩:=YB hb2;have HB2:=hid hb2;clear hb2)|(go_at_call 66;(with_reducible refine(j.out _).mono ?_);rintro e f ⟨rfl,rfl⟩)|(go_at_call 66;(with_reducible refine(x.out _).mono ?_);rintro e f ⟨rfl,rfl⟩)|(go_at_call 66;(with_reducible refine(v.out _).mono ?_);rintro e f ⟨rfl,rfl⟩)|(go_at_call 66;(with_reducible refine(q.out _).mono ?_);rintro e f ⟨rfl,rfl⟩));all_goals (first|(exfalso;have D:=y.out;omega)|(go_ret;exact⟨YH (by rw[←HF.out,←E.out];first|(rw[←ag.out];simp[exE,hno,y.out.1,y.out.2];done)|simp[exE,hno,y.out.1,y.out.2]),bq⟩)))
  have bc:(k == 2)=false:=ZW.2 M;by_cases C:args.len=1
  ·have O:((args.len:Int) == 1)=true:=by rw[beq_iff_eq];omega
   have y:=hid C;clear C;by_cases he:U=⟨#[]⟩
   ·subst he;have aa:∀b:Bool,(if k=3∨k=4 then inB n 1 100 else if k=5 then inB n 0 100&&inB d 1 100 else if k=6∨k=8 then inB n (-1000000000) 1000000000 else decide (k=7)&&decide (n=0))=b→¬(d≠0∧k≠5)→b=fin:=fun b hb hd=>by
     have hc:¬(args.len≠1∨(⟨#[]⟩:ByteArray)≠⟨#[]⟩∨(d≠0∧k≠5)):=fun h=>by
      rcases h with h|h|h
      ·exact h y.out
      ·exact h rfl
      exact hd h
     rw[←HF.out,←E.out,Bool.true_and];unfold exE;rw[ZZ L,ZZ M,ZZ hc];exact hb.symm
    have I:=hid aa;clear aa;by_cases Y:k=5
    ·subst Y
     cases hib:inB n 0 100<;>by_cases m:d=0
     all_goals (rw[hib] at j;first|have J:(d == 0)=false:=ZW.2 m|subst m)
     all_goals (go_wp2_with (first|(go_at_call 65;refine(g.out _).mono ?_;rintro e f ⟨rfl,hb2⟩;obtain⟨z,A⟩:=YB hb2;have HB2:=hid hb2;clear hb2)|(go_at_call 66;(with_reducible refine(j.out _).mono ?_);rintro e f ⟨rfl,rfl⟩)|(go_at_call 66;(with_reducible refine(x.out _).mono ?_);rintro e f ⟨rfl,rfl⟩)|(go_at_call 66;(with_reducible refine(v.out _).mono ?_);rintro e f ⟨rfl,rfl⟩)|(go_at_call 66;(with_reducible refine(q.out _).mono ?_);rintro e f ⟨rfl,rfl⟩));all_goals (first|(exfalso;have D:=y.out;omega)|(go_ret;exact⟨YH (I.out _ (by simp[hib]) (by simp)),bq⟩)))
    have bf:(k == 5)=false:=ZW.2 Y;by_cases m:d=0
    ·subst m;by_cases aj:k=3
     ·subst aj;go_wp2_with (first|(go_at_call 65;refine(g.out _).mono ?_;rintro e f ⟨rfl,hb2⟩;obtain⟨z,A⟩:=YB hb2;have HB2:=hid hb2;clear hb2)|(go_at_call 66;(with_reducible refine(j.out _).mono ?_);rintro e f ⟨rfl,rfl⟩)|(go_at_call 66;(with_reducible refine(x.out _).mono ?_);rintro e f ⟨rfl,rfl⟩)|(go_at_call 66;(with_reducible refine(v.out _).mono ?_);rintro e f ⟨rfl,rfl⟩)|(go_at_call 66;(with_reducible refine(q.out _).mono ?_);rintro e f ⟨rfl,rfl⟩))
      all_goals (first|(exfalso;have D:=y.out;omega)|(go_ret;exact⟨YH (I.out _ (by simp) (by simp)),bq⟩))
     have bd:(k == 3)=false:=ZW.2 aj;by_cases ak:k=4
     ·subst ak;go_wp2_with (first|(go_at_call 65;refine(g.out _).mono ?_;rintro e f ⟨rfl,hb2⟩;obtain⟨z,A⟩:=YB hb2;have HB2:=hid hb2;clear hb2)|(go_at_call 66;(with_reducible refine(j.out _).mono ?_);rintro e f ⟨rfl,rfl⟩)|(go_at_call 66;(with_reducible refine(x.out _).mono ?_);rintro e f ⟨rfl,rfl⟩)|(go_at_call 66;(with_reducible refine(v.out _).mono ?_);rintro e f ⟨rfl,rfl⟩)|(go_at_call 66;(with_reducible refine(q.out _).mono ?_);rintro e f ⟨rfl,rfl⟩))
      all_goals (first|(exfalso;have D:=y.out;omega)|(go_ret;exact⟨YH (I.out _ (by simp) (by simp)),bq⟩))
     have be:(k == 4)=false:=ZW.2 ak;by_cases al:k=6
     ·subst al;go_wp2_with (first|(go_at_call 65;refine(g.out _).mono ?_;rintro e f ⟨rfl,hb2⟩;obtain⟨z,A⟩:=YB hb2;have HB2:=hid hb2;clear hb2)|(go_at_call 66;(with_reducible refine(j.out _).mono ?_);rintro e f ⟨rfl,rfl⟩)|(go_at_call 66;(with_reducible refine(x.out _).mono ?_);rintro e f ⟨rfl,rfl⟩)|(go_at_call 66;(with_reducible refine(v.out _).mono ?_);rintro e f ⟨rfl,rfl⟩)|(go_at_call 66;(with_reducible refine(q.out _).mono ?_);rintro e f ⟨rfl,rfl⟩))
      all_goals (first|(exfalso;have D:=y.out;omega)|(go_ret;exact⟨YH (I.out _ (by simp) (by simp)),bq⟩))
     have bh:(k == 6)=false:=ZW.2 al;by_cases an:k=8
     ·subst an;go_wp2_with (first|(go_at_call 65;refine(g.out _).mono ?_;rintro e f ⟨rfl,hb2⟩;obtain⟨z,A⟩:=YB hb2;have HB2:=hid hb2;clear hb2)|(go_at_call 66;(with_reducible refine(j.out _).mono ?_);rintro e f ⟨rfl,rfl⟩)|(go_at_call 66;(with_reducible refine(x.out _).mono ?_);rintro e f ⟨rfl,rfl⟩)|(go_at_call 66;(with_reducible refine(v.out _).mono ?_);rintro e f ⟨rfl,rfl⟩)|(go_at_call 66;(with_reducible refine(q.out _).mono ?_);rintro e f ⟨rfl,rfl⟩))
      all_goals (first|(exfalso;have D:=y.out;omega)|(go_ret;exact⟨YH (I.out _ (by simp) (by simp)),bq⟩))
     have bj:(k == 8)=false:=ZW.2 an;by_cases am:k=7<;>by_cases F:n=0
     all_goals (first|have bi:(k == 7)=false:=ZW.2 am|subst am)
     all_goals (first|have az:(n == 0)=false:=ZW.2 F|subst F)
     all_goals (go_wp2_with (first|(go_at_call 65;refine(g.out _).mono ?_;rintro e f ⟨rfl,hb2⟩;obtain⟨z,A⟩:=YB hb2;have HB2:=hid hb2;clear hb2)|(go_at_call 66;(with_reducible refine(j.out _).mono ?_);rintro e f ⟨rfl,rfl⟩)|(go_at_call 66;(with_reducible refine(x.out _).mono ?_);rintro e f ⟨rfl,rfl⟩)|(go_at_call 66;(with_reducible refine(v.out _).mono ?_);rintro e f ⟨rfl,rfl⟩)|(go_at_call 66;(with_reducible refine(q.out _).mono ?_);rintro e f ⟨rfl,rfl⟩));all_goals (first|(exfalso;have D:=y.out;omega)|(exfalso;rename_i hx;have br:=eq_of_beq hx;omega)|(go_ret;exact⟨YH (I.out _ (by simp[*]) (by simp)),bq⟩)))
    have J:(d == 0)=false:=ZW.2 m;have bk:(d != 0)=true:=bne_iff_ne.2 m;have bg:(k != 5)=true:=bne_iff_ne.2 Y;go_wp2_with (first|(go_at_call 65;refine(g.out _).mono ?_;rintro e f ⟨rfl,hb2⟩;obtain⟨z,A⟩:=YB hb2;have HB2:=hid hb2;clear hb2)|(go_at_call 66;(with_reducible refine(j.out _).mono ?_);rintro e f ⟨rfl,rfl⟩)|(go_at_call 66;(with_reducible refine(x.out _).mono ?_);rintro e f ⟨rfl,rfl⟩)|(go_at_call 66;(with_reducible refine(v.out _).mono ?_);rintro e f ⟨rfl,rfl⟩)|(go_at_call 66;(with_reducible refine(q.out _).mono ?_);rintro e f ⟨rfl,rfl⟩))
    all_goals (first|(exfalso;have D:=y.out;omega)|(go_ret;exact⟨YH (by rw[←HF.out,←E.out];simp[exE,L,M,m,Y]),bq⟩))
   have ae:U.data.toList≠[]:=Zd3 he;have bl:U.toList.isEmpty=false:=by rw[Lib.toList_data];simpa using ae
   have bm:¬U.toList=[]:=by rw[Lib.toList_data];exact ae
   have HE:=hid he;clear he ae;go_wp2_with (first|(go_at_call 65;refine(g.out _).mono ?_;rintro e f ⟨rfl,hb2⟩;obtain⟨z,A⟩:=YB hb2;have HB2:=hid hb2;clear hb2)|(go_at_call 66;(with_reducible refine(j.out _).mono ?_);rintro e f ⟨rfl,rfl⟩)|(go_at_call 66;(with_reducible refine(x.out _).mono ?_);rintro e f ⟨rfl,rfl⟩)|(go_at_call 66;(with_reducible refine(v.out _).mono ?_);rintro e f ⟨rfl,rfl⟩)|(go_at_call 66;(with_reducible refine(q.out _).mono ?_);rintro e f ⟨rfl,rfl⟩))
   all_goals (first|(exfalso;have D:=y.out;omega)|(go_ret;exact⟨YH (by rw[←HF.out,←E.out];rw[Zfm L M HE.out];rfl),bq⟩))
  have O:((args.len:Int) == 1)=false:=by rw[ZW];omega
  have y:=hid C;clear C;go_wp2_with (first|(go_at_call 65;refine(g.out _).mono ?_;rintro e f ⟨rfl,hb2⟩;obtain⟨z,A⟩:=YB hb2;have HB2:=hid hb2;clear hb2)|(go_at_call 66;(with_reducible refine(j.out _).mono ?_);rintro e f ⟨rfl,rfl⟩)|(go_at_call 66;(with_reducible refine(x.out _).mono ?_);rintro e f ⟨rfl,rfl⟩)|(go_at_call 66;(with_reducible refine(v.out _).mono ?_);rintro e f ⟨rfl,rfl⟩)|(go_at_call 66;(with_reducible refine(q.out _).mono ?_);rintro e f ⟨rfl,rfl⟩))
  all_goals (first|(exfalso;have D:=y.out;omega)|(go_ret;exact⟨YH (by rw[←HF.out,←E.out];rw[ZdS L M y.out];rfl),bq⟩))
theorem ZbK(e:PE):UB e:=by
 suffices h:∀(N:Nat)(e:PE),e.args.sz<N→UB e from h _ e (ZU _)
 intro N
 induction N with
 | zero=>intro e h;omega
 | succ N ih=>intro e h;exact e8 e (fun e' h'=>ih e' oq)
end Go.Proofs.YtdgifkjaflfdeaaGreatDoor.syn
