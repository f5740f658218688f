/- Parts of the proof. -/
import Derived.Test.YtdgifkjaflfdeaaGreatDoorV05
import Derived.Test.YtdgifkjaflfdeaaGreatDoorV07
set_option linter.all false
set_option maxRecDepth 100000
set_option maxHeartbeats 16000000
namespace Go.Proofs.YtdgifkjaflfdeaaGreatDoor.body
open Tryz
open Go.RowKit
def opP(s:List UInt8)(a b:Int):Int :=
 if s=[43] then wrap64 (a+b)
 else if s=[45] then wrap64 (a-b)
 else if s=[42] then wrap64 (a*b)
 else if s=[47] then (if b=0 then 0 else wrap64 (a.tdiv b))
 else if s=[37] then (if b=0 then 0 else a.tmod b)
 else if s=[60] then (if a<b then 1 else 0)
 else if s=[61,61] then (if a=b then 1 else 0)
 else 0
theorem Vf{k:IntKind}{a b:Int}(h:a=b):Ending.returned (.int k a)=.returned (.int k b):=by rw[h]
theorem yb(c:Bool)(w:World):Calls prog 260 #[.bool c] w fun e w'=>e=.returned (.int .i64 (if c=true then 1 else 0))∧w=w':=by
 cases c<;>(go_enter func260,ntmps260;go_wp2;go_ret;exact⟨rfl,rfl⟩)
theorem XE{s:ByteArray}{l:List UInt8}(h:s.toList=l):s=⟨l.toArray⟩:=by
 obtain⟨⟨d⟩⟩:=s;rw[Lib.toList_data] at h;simp at h;subst h;rfl
theorem ZfN(s:ByteArray)(a b:Int)(w:World)(v:-9223372036854775808≤a)(x:a≤9223372036854775807)(y:-9223372036854775808≤b)(z:b≤9223372036854775807) :
  Calls prog 250 #[.string s,.int .i64 a,.int .i64 b] w fun e w'=>e=.returned (.int .i64 (opP s.toList a b))∧∃m,w'=w.drewN m:=by
 by_cases f:s.toList=[43]
 ·rw[f,show opP [43] a b=wrap64 (a+b) from rfl];obtain rfl:=XE f;clear f v x y z;go_enter func250,ntmps250;go_wp2;go_ret;exact⟨rfl,0,rfl⟩
 by_cases g:s.toList=[45]
 ·rw[g,show opP [45] a b=wrap64 (a-b) from rfl];obtain rfl:=XE g;clear f g v x y z;go_enter func250,ntmps250;go_wp2;go_ret;exact⟨rfl,0,rfl⟩
 by_cases j:s.toList=[42]
 ·rw[j,show opP [42] a b=wrap64 (a*b) from rfl];obtain rfl:=XE j;clear f g j v x y z;go_enter func250,ntmps250;go_wp2;go_ret;exact⟨rfl,0,rfl⟩
 by_cases q:s.toList=[47]
 ·rw[q,show opP [47] a b=if b=0 then 0 else wrap64 (a.tdiv b) from rfl];obtain rfl:=XE q;clear f g j q v x y z;by_cases hb:b=0
  ·subst hb;go_enter func250,ntmps250;go_wp2;go_ret;exact⟨rfl,0,rfl⟩
  rw[Yu hb];have E:(b == 0)=false:=by simpa using hb
  go_enter func250,ntmps250;go_wp2;go_ret;exact⟨rfl,0,rfl⟩
 by_cases A:s.toList=[37]
 ·rw[A,show opP [37] a b=if b=0 then 0 else a.tmod b from rfl];obtain rfl:=XE A;clear f g j q A v x y z;by_cases hb:b=0
  ·subst hb;go_enter func250,ntmps250;go_wp2;go_ret;exact⟨rfl,0,rfl⟩
  rw[Yu hb];have E:(b == 0)=false:=by simpa using hb
  go_enter func250,ntmps250;go_wp2;go_ret;exact⟨rfl,0,rfl⟩
 by_cases C:s.toList=[60]
 ·rw[C,show opP [60] a b=if a<b then 1 else 0 from rfl];obtain rfl:=XE C;clear f g j q A C v x y z;go_enter func250,ntmps250;go_wp2_with (go_at_call 260;refine(yb _ _).mono ?_;rintro e w' ⟨rfl,rfl⟩)
  all_goals
   go_ret;exact⟨rfl,0,rfl⟩
 by_cases D:s.toList=[61,61]
 ·rw[D,show opP [61,61] a b=if a=b then 1 else 0 from rfl];obtain rfl:=XE D;clear f g j q A C D v x y z;go_enter func250,ntmps250;go_wp2_with (go_at_call 260;refine(yb _ _).mono ?_;rintro e w' ⟨rfl,rfl⟩)
  all_goals
   go_ret;exact⟨rfl,0,rfl⟩
 rw[show opP s.toList a b=0 by unfold opP;rw[Yu f,Yu g,Yu j,Yu q,Yu A,Yu C,Yu D]];have F:(s.toList == [43])=false:=(by simpa using f);have G:(s.toList == [45])=false:=(by simpa using g);have H:(s.toList == [42])=false:=(by simpa using j);have I:(s.toList == [47])=false:=(by simpa using q);have J:(s.toList == [37])=false:=(by simpa using A);have L:(s.toList == [60])=false:=(by simpa using C);have M:(s.toList == [61,61])=false:=(by simpa using D);clear f g j q A C D v x y z;go_enter func250,ntmps250;go_wp2;go_ret;exact⟨rfl,0,rfl⟩
theorem zk(a:Int):IntKind.u64.wrap a=a%18446744073709551616:=by
 rfl
theorem J1{x y:Int}(h:x%18446744073709551616=y%18446744073709551616):wrap64 x=wrap64 y:=by unfold wrap64;omega
theorem gQ{a b:Int}(h:a=b):Ending.returned (.int .u64 a)=.returned (.int .u64 b):=by rw[h]
theorem Jr(a:Int)(w:World)(f:-9223372036854775808≤a)(g:a≤9223372036854775807) :
  Calls prog 207 #[.int .i64 a] w fun e w'=>e=.returned (.int .u64 (plain.sz a))∧∃m,w'=w.drewN m:=by
 by_cases j:a<0
 ·go_enter func207,ntmps207;go_wp2;go_ret;exact⟨gQ (by rw[plain.E3 oz,zk,zk];omega),0,rfl⟩
 go_enter func207,ntmps207;go_wp2;go_ret;exact⟨gQ (by rw[plain.JY oz]),0,rfl⟩
theorem K2(a:Int)(w:World):Calls prog 167 #[.int .i64 a,.int .i64 0] w fun e w'=>e=.returned (.tuple #[.int .i64 0,.int .i64 0])∧∃m,w'=w.drewN m:=by
 go_enter func167,ntmps167;go_wp2;go_ret2;exact⟨rfl,0,rfl⟩
theorem wq(x:Int):wrap64 (IntKind.u64.wrap x)=wrap64 x:=J1 (by rw[zk];omega)
theorem wqn(x:Int):wrap64 (IntKind.u64.wrap (-IntKind.u64.wrap x))=wrap64 (-x):=J1 (by rw[zk,zk];omega)
theorem Jn{a b c d:Int}(h:a=b)(f:c=d):Ending.returned (.tuple #[.int .i64 a,.int .i64 c])=.returned (.tuple #[.int .i64 b,.int .i64 d]):=by rw[h,f]
theorem ZeA(a b:Int)(g:-9223372036854775808≤a)(j:a≤9223372036854775807):-9223372036854775808≤a.tmod b∧a.tmod b≤9223372036854775807:=by
 by_cases h:0≤a
 ·have:=Int.tmod_nonneg b h;have m:=Int.mul_tdiv_add_tmod a b;have f:(a.tmod b).natAbs≤a.natAbs:=by rw[Int.natAbs_tmod];exact Nat.mod_le _ _
  omega
 have f:(a.tmod b).natAbs≤a.natAbs:=by rw[Int.natAbs_tmod];exact Nat.mod_le _ _
 have:=Int.tmod_nonneg b (show 0≤-a by omega);rw[Int.neg_tmod] at this;omega
theorem Zg2{a b:Int}(f:0≤a)(hb:b<0):(plain.sz a).tdiv (plain.sz b)=-(a.tdiv b)∧(plain.sz a).tmod (plain.sz b)=a.tmod b:=by
 rw[plain.JY f,plain.E3 hb,Int.tdiv_neg,Int.tmod_neg];exact⟨rfl,rfl⟩
theorem Zg3{a b:Int}(f:0≤a)(hb:0≤b):(plain.sz a).tdiv (plain.sz b)=a.tdiv b∧(plain.sz a).tmod (plain.sz b)=a.tmod b:=by
 rw[plain.JY f,plain.JY hb];exact⟨rfl,rfl⟩
theorem Zg1{a b:Int}(f:a<0)(hb:0≤b):(plain.sz a).tdiv (plain.sz b)=-(a.tdiv b)∧(plain.sz a).tmod (plain.sz b)=-(a.tmod b):=by
 rw[plain.E3 f,plain.JY hb,Int.neg_tdiv,Int.neg_tmod];exact⟨rfl,rfl⟩
theorem Zg0{a b:Int}(f:a<0)(hb:b<0):(plain.sz a).tdiv (plain.sz b)=a.tdiv b∧(plain.sz a).tmod (plain.sz b)=-(a.tmod b):=by
 rw[plain.E3 f,plain.E3 hb,Int.neg_tdiv,Int.neg_tmod,Int.tdiv_neg,Int.tmod_neg,Int.neg_neg];exact⟨rfl,rfl⟩
theorem G7(a b:Int)(w:World)(y:-9223372036854775808≤a)(z:a≤9223372036854775807)(A:-9223372036854775808≤b)(C:b≤9223372036854775807)(hb:¬b=0) :
  Calls prog 167 #[.int .i64 a,.int .i64 b] w fun e w'=>e=.returned (.tuple #[.int .i64 (wrap64 (a.tdiv b)),.int .i64 (a.tmod b)])∧∃m,w'=w.drewN m:=by
 have D:=plain.Zf2 hb;have la:=plain.Ze1 y z;have F:=plain.Ze1 A C;have G:(plain.sz b == 0)=false:=by simp;omega
 have E:(b == 0)=false:=by simpa using hb
 have j:=ZeA a b y z;by_cases f:a<0<;>by_cases g:b<0
 ·have v:decide (a<0)=true:=Yt f;have x:decide (b<0)=true:=Yt g;have H:=Lib.hid (Zg0 f g);go_enter func167,ntmps167;go_wp2_with (go_at_call 207;refine(Jr _ _ oz oz).mono ?_;rintro e w' ⟨rfl,q,rfl⟩);go_quiet (fail);go_wp2;go_ret2;exact⟨Jn (by first|(rw[wqn];rw[H.out.1];(try rw[Int.neg_neg]))|(rw[wq];rw[H.out.1])) (by rw[H.out.2];(try rw[Int.neg_neg]);(try rw[wq]);exact IntWalk.wrap64_in _ j),_,rfl⟩
 ·have v:decide (a<0)=true:=Yt f;have x:decide (b<0)=false:=Ys g;have H:=Lib.hid (Zg1 f (Int.not_lt.1 g));go_enter func167,ntmps167;go_wp2_with (go_at_call 207;refine(Jr _ _ oz oz).mono ?_;rintro e w' ⟨rfl,q,rfl⟩);go_quiet (fail);go_wp2;go_ret2;exact⟨Jn (by first|(rw[wqn];rw[H.out.1];(try rw[Int.neg_neg]))|(rw[wq];rw[H.out.1])) (by rw[H.out.2];(try rw[Int.neg_neg]);(try rw[wq]);exact IntWalk.wrap64_in _ j),_,rfl⟩
 ·have v:decide (a<0)=false:=Ys f;have x:decide (b<0)=true:=Yt g;have H:=Lib.hid (Zg2 (Int.not_lt.1 f) g);go_enter func167,ntmps167;go_wp2_with (go_at_call 207;refine(Jr _ _ oz oz).mono ?_;rintro e w' ⟨rfl,q,rfl⟩);go_quiet (fail);go_wp2;go_ret2;exact⟨Jn (by first|(rw[wqn];rw[H.out.1];(try rw[Int.neg_neg]))|(rw[wq];rw[H.out.1])) (by rw[H.out.2];(try rw[Int.neg_neg]);(try rw[wq]);exact IntWalk.wrap64_in _ j),_,rfl⟩
 have v:decide (a<0)=false:=Ys f;have x:decide (b<0)=false:=Ys g;have H:=Lib.hid (Zg3 (Int.not_lt.1 f) (Int.not_lt.1 g));go_enter func167,ntmps167;go_wp2_with (go_at_call 207;refine(Jr _ _ oz oz).mono ?_;rintro e w' ⟨rfl,q,rfl⟩);go_quiet (fail);go_wp2;go_ret2;exact⟨Jn (by first|(rw[wqn];rw[H.out.1];(try rw[Int.neg_neg]))|(rw[wq];rw[H.out.1])) (by rw[H.out.2];(try rw[Int.neg_neg]);(try rw[wq]);exact IntWalk.wrap64_in _ j),_,rfl⟩
theorem ZaI(s:ByteArray)(a b:Int)(w:World)(A:-9223372036854775808≤a)(C:a≤9223372036854775807)(D:-9223372036854775808≤b)(E:b≤9223372036854775807) :
  Calls prog 96 #[.string s,.int .i64 a,.int .i64 b] w fun e w'=>e=.returned (.int .i64 (opP s.toList a b))∧∃m,w'=w.drewN m:=by
 by_cases f:s.toList=[43]
 ·rw[f,show opP [43] a b=wrap64 (a+b) from rfl];obtain rfl:=XE f;clear f;go_enter func96,ntmps96;go_wp2;go_ret;exact⟨Vf (J1 (by simp only[zk];omega)),0,rfl⟩
 by_cases g:s.toList=[45]
 ·rw[g,show opP [45] a b=wrap64 (a-b) from rfl];obtain rfl:=XE g;clear f g;go_enter func96,ntmps96;go_wp2;go_ret;exact⟨Vf (J1 (by simp only[zk];omega)),0,rfl⟩
 by_cases q:s.toList=[42]
 ·rw[q,show opP [42] a b=wrap64 (a*b) from rfl];obtain rfl:=XE q;clear f g q;go_enter func96,ntmps96;go_wp2;go_ret;exact⟨Vf (J1 (by simp only[zk];rw[Int.emod_emod_of_dvd _ (Int.dvd_refl _),←Int.mul_emod])),0,rfl⟩
 by_cases v:s.toList=[47]
 ·rw[v,show opP [47] a b=if b=0 then 0 else wrap64 (a.tdiv b) from rfl];obtain rfl:=XE v;clear f g q v;by_cases hb:b=0
  ·subst hb;go_enter func96,ntmps96;go_wp2_with (go_at_call 167;refine((K2 _ _)).mono ?_;rintro e w' ⟨rfl,F,rfl⟩);go_ret;exact⟨rfl,_,rfl⟩
  rw[Yu hb];have H:=Lib.hid (fun w=>G7 a b w A C D E hb);clear hb;go_enter func96,ntmps96;go_wp2_with (go_at_call 167;refine((H.out _)).mono ?_;rintro e w' ⟨rfl,F,rfl⟩);go_ret;exact⟨rfl,_,rfl⟩
 by_cases x:s.toList=[37]
 ·rw[x,show opP [37] a b=if b=0 then 0 else a.tmod b from rfl];obtain rfl:=XE x;clear f g q v x;by_cases hb:b=0
  ·subst hb;go_enter func96,ntmps96;go_wp2_with (go_at_call 167;refine((K2 _ _)).mono ?_;rintro e w' ⟨rfl,F,rfl⟩);go_ret;exact⟨rfl,_,rfl⟩
  rw[Yu hb];have H:=Lib.hid (fun w=>G7 a b w A C D E hb);clear hb;go_enter func96,ntmps96;go_wp2_with (go_at_call 167;refine((H.out _)).mono ?_;rintro e w' ⟨rfl,F,rfl⟩);go_ret;exact⟨rfl,_,rfl⟩
 by_cases y:s.toList=[60]
 ·rw[y,show opP [60] a b=if a<b then 1 else 0 from rfl];obtain rfl:=XE y;clear f g q v x y A C D E;go_enter func96,ntmps96;go_wp2
  all_goals
   go_ret;exact⟨rfl,0,rfl⟩
 by_cases z:s.toList=[61,61]
 ·rw[z,show opP [61,61] a b=if a=b then 1 else 0 from rfl];obtain rfl:=XE z;clear f g q v x y z;have G:(IntKind.u64.wrap a == IntKind.u64.wrap b)=decide (a=b):=by rw[zk,zk,Bool.eq_iff_iff];simp;omega
  by_cases j:a=b
  ·rw[Yv j];rw[Yt j] at G;subst j;go_enter func96,ntmps96;go_wp2;go_ret;exact⟨rfl,0,rfl⟩
  rw[Yu j];rw[Ys j] at G;go_enter func96,ntmps96;go_wp2;go_ret;exact⟨rfl,0,rfl⟩
 rw[show opP s.toList a b=0 by unfold opP;rw[Yu f,Yu g,Yu q,Yu v,Yu x,Yu y,Yu z]];have I:(s.toList == [43])=false:=(by simpa using f);have J:(s.toList == [45])=false:=(by simpa using g);have L:(s.toList == [42])=false:=(by simpa using q);have M:(s.toList == [47])=false:=(by simpa using v);have O:(s.toList == [37])=false:=(by simpa using x);have R:(s.toList == [60])=false:=(by simpa using y);have T:(s.toList == [61,61])=false:=(by simpa using z);clear f g q v x y z A C D E;go_enter func96,ntmps96;go_wp2;go_ret;exact⟨rfl,0,rfl⟩
end Go.Proofs.YtdgifkjaflfdeaaGreatDoor.body
namespace Go.Proofs.YtdgifkjaflfdeaaGreatDoor.syn
open Tryz
open Go.RowKit
def opE(nm:ByteArray)(a b c:Int):Int:=if nm.toList=[63] then (if a≠0 then b else c) else body.opP nm.toList a b
def sgE(T:ByteArray→Int)(k:Int)(nm:ByteArray)(n:Int):Int:=if k=11 then T nm else if k=12 then n else 0
def evA(T:ByteArray→Int):PL→Nat→Int
 | .nil,_=>0
 | .cons k nm n _ args _ _,0=>if k=13 then opE nm (evA T args 0) (evA T args 1) (evA T args 2) else sgE T k nm n
 | .cons _ _ _ _ _ _ tl,i+1=>evA T tl i
def evE(T:ByteArray→Int)(e:PE):Int:=if e.k=13 then opE e.nm (evA T e.args 0) (evA T e.args 1) (evA T e.args 2) else sgE T e.k e.nm e.n
theorem Vy(T:ByteArray→Int):∀(l:PL)(i:Nat)(e:PE),l.at i=some e→evA T l i=evE T e
 | .cons k nm n d args a tl,0,e,h=>by injection h with h;subst h;rfl
 | .cons _ _ _ _ _ _ tl,i+1,e,h=>Vy T tl i e h
theorem qc(T:ByteArray→Int):∀(l:PL)(i:Nat),l.len≤i→evA T l i=0
 | .nil,_,_=>rfl
 | .cons _ _ _ _ _ _ tl,0,h=>by simp[PL.len] at h
 | .cons _ _ _ _ _ _ tl,i+1,h=>qc T tl i (by simp only[PL.len] at h;omega)
def At(w:World)(x:Addr)(e:PE):Prop:=∃b o ad cap,x=⟨b,o,none⟩∧(∃cs t,w.heap[b]?=some (.cells cs t (0,0)))∧w.cell? ⟨b,o,none⟩=some (.int .i64 e.k)∧w.cell? ⟨b,o+1,none⟩=some (.string e.nm)∧w.cell? ⟨b,o+2,none⟩=some (.int .i64 e.n) ∧
 w.cell? ⟨b,o+3,none⟩=some (.int .i64 e.d)∧w.cell? ⟨b,o+5,none⟩=some (.int .i64 e.a)∧w.cell? ⟨b,o+4,none⟩=some (.slice ad e.args.len cap)∧e.args.len≤cap∧SlA w (fun _=>True) e.args ad
theorem EV{w:World}:∀(l:PL)(b o i:Nat)(e:PE),(∃cs t,w.heap[b]?=some (.cells cs t (0,0)))→Qm w (fun _=>True) b l o→l.at i=some e→At w ⟨b,o+i*6,none⟩ e
 | .cons k nm n d args a tl,b,o,0,e,hb,h,he=>by
  injection he with he
  subst he;obtain⟨h0,h1,h2,h3,h5,⟨ad,cap,h4,hcap,hd⟩,ht⟩:=h;refine⟨b,o,ad,cap,by simp,hb,h0,h1,h2,h3,h5,h4,hcap,?_⟩;rcases hd with hd|⟨b',o',e',hb',hd⟩
  ·exact .inl hd
  exact .inr ⟨b',o',e',hb',hd⟩
 | .cons k nm n d args a tl,b,o,i+1,e,hb,h,he=>by
  have:=EV tl b (o+6) i e hb h.2.2.2.2.2.2 he;rw[show o+(i+1)*6=o+6+i*6 by omega];exact this
theorem At.arg{w:World}{x:Addr}{e:PE}(h:At w x e){i:Nat}(hi:i<e.args.len):∃b o cap,w.cell? ⟨x.block,x.off+4,none⟩=some (.slice (some ⟨b,o,none⟩) e.args.len cap)∧∃e',e.args.at i=some e'∧At w ⟨b,o+i*6,none⟩ e':=by
 obtain⟨bx,D,q,cap,rfl,hb,v,y,z,A,C,m,j,g⟩:=h;obtain⟨e',f,_⟩:=PL.at_some e.args i hi;rcases g with g|⟨b,o,rfl,⟨_,cs,hcs⟩,hc⟩
 ·rw[g] at hi;exact absurd hi (Yj _)
 exact⟨b,o,cap,m,e',f,EV _ _ _ _ _ ⟨cs,_,hcs⟩ hc f⟩
theorem cells_one{w:World}:∀(l f:PL)(b o:Nat),l.len=f.len→Qm w (fun _=>True) b l o→Qm w (fun _=>True) b f o→l=f:=by
 intro l
 induction l with
 | nil =>
  intro f b o q _ _;exact(yT q.symm).symm
 | cons k nm n d args a tl ih1 ih2 =>
  intro f b o q h R
  cases f with
  | nil=>simp[PL.len] at q
  | cons k' nm' n' d' args' a' tl' =>
   obtain⟨T,U,V,X,Z,⟨ad,cap,Y,E,hd⟩,ht⟩:=h;obtain⟨G,H,I,J,M,⟨F,v,L,D,j⟩,O⟩:=R;have x:=T.symm.trans G;have y:=U.symm.trans H;have z:=V.symm.trans I;have A:=X.symm.trans J;have m:=Y.symm.trans L;have C:=Z.symm.trans M;simp only[Option.some.injEq,Value.int.injEq,true_and,Value.string.injEq,Value.slice.injEq] at x y z A m C;obtain⟨m,g,e7⟩:=m;subst x;subst y;subst z;subst A;subst C;subst m;have ha:args=args':=by
    rcases hd with hd|⟨b1,o1,x1,_,hd⟩
    ·rw[hd] at g ⊢;exact(yT g.symm).symm
    rcases j with j|⟨b2,o2,x2,_,j⟩
    ·rw[j] at g ⊢;exact yT g
    rw[x1] at x2;injection x2 with x2
    injection x2 with x2 x3
    subst x2;subst x3;exact ih1 args' _ _ g hd j
   subst ha;rw[ih2 tl' b (o+6) (by simpa [PL.len] using q) ht O]
theorem At.one{w:World}{x:Addr}{e q:PE}(h:At w x e)(R:At w x q):e=q:=by
 obtain⟨b,o,ad,cap,rfl,hb,T,U,V,X,Z,Y,F,hd⟩:=h;obtain⟨b',o',G,v,hx,gb,H,I,J,L,O,M,E,j⟩:=R;injection hx with x1 x2
 subst x1;subst x2;obtain⟨k,nm,n,d,args,a⟩:=e;obtain⟨k',aa,n',d',f,a'⟩:=q;have y:=T.symm.trans H;have z:=U.symm.trans I;have A:=V.symm.trans J;have C:=X.symm.trans L;have m:=Y.symm.trans M;have D:=Z.symm.trans O;simp only[Option.some.injEq,Value.int.injEq,true_and,Value.string.injEq,Value.slice.injEq] at y z A C m D;obtain⟨m,g,e7⟩:=m;subst y;subst z;subst A;subst C;subst D;subst m;have ha:args=f:=by
  simp only at hd j g;rcases hd with hd|⟨b1,o1,x1,_,hd⟩
  ·rw[hd] at g ⊢;exact(yT g.symm).symm
  rcases j with j|⟨b2,o2,x2,_,j⟩
  ·rw[j] at g ⊢;exact yT g
  rw[x1] at x2;injection x2 with x2
  injection x2 with x2 x3
  subst x2;subst x3;exact cells_one _ _ _ _ g hd j
 subst ha;rfl
def K0(w:World)(a:Addr):Prop:=∃b o cs t,a=⟨b,o,none⟩∧w.heap[b]?=some (.cells cs t (0,0))
theorem K0.keep{w w':World}{a:Addr}(h:K0 w a)(m:∀(b:Nat)(f:Array Value)(t:TypeId),w.heap[b]?=some (Obj.cells f t (0,0))→∃cs',w'.heap[b]?=some (Obj.cells cs' t (0,0))):K0 w' a:=by
 obtain⟨b,o,f,t,rfl,g⟩:=h;obtain⟨cs',j⟩:=m b f t g;exact⟨b,o,cs',t,rfl,j⟩
theorem Zeu{P:Program}{w:World}{x y:Addr}(A:K0 w x)(hy:K0 w y):(sameAddr x y).run P w=.ok (decide (x=y)) w:=by
 obtain⟨f,m,c1,C,rfl,v⟩:=A;obtain⟨g,q,c2,D,rfl,z⟩:=hy;by_cases hb:f=g
 ·subst hb;have e:(sameAddr ⟨f,m,none⟩ ⟨f,q,none⟩).run P w=.ok ((⟨f,m,none⟩:Addr) == ⟨f,q,none⟩) w:=by simp[sameAddr]
  rw[e];rfl
 have j:(f == g)=false:=by simpa using hb
 have s1:w.shape? f=some (C,c1.size):=by simp[World.shape?,v]
 have s2:w.shape? g=some (D,c2.size):=by simp[World.shape?,z]
 have E:∀o,w.frozen? ⟨f,o,none⟩=false:=fun o=>by simp[World.frozen?,v]
 have F:∀o,w.frozen? ⟨g,o,none⟩=false:=fun o=>by simp[World.frozen?,z]
 have hd:decide ((⟨f,m,none⟩:Addr)=⟨g,q,none⟩)=false:=ZX (fun e=>hb (by injection e));rw[hd];simp only[sameAddr,j,Bool.false_eq_true,if_false,Sem.run_bind,run_frozen,ZO,E,F,Bool.false_and,noView,viewAt,run_shape,s1,s2,Option.isSome,if_true,Sem.run_pure,mayBeOne,stringish,Bool.or_self]
theorem ZgH{T K E X:TypeId}{z:Value}(M:Qa T K E X z){w:World}{x y:Addr}(f:K0 w x)(hy:K0 w y):(Op.equal K (.pointer (some x)) (.pointer (some y))).run prog w=.ok (decide (x=y)) w:=by
 obtain⟨m,g⟩:=M.size w;obtain⟨d,hd⟩:∃d,Op.maxDepth=d+1:=⟨9999,rfl⟩;have h:=Zeu (P:=prog) f hy;unfold Op.equal;rw[hd];simp[Op.equalIn,run_underlying M.key,g,h]
def Vn(k:Addr):List (Addr × Value)→Nat→Option (Nat × Value)
 | [],_=>none
 | p::L,i=>if k=p.1 then some (i,p.2) else Vn k L (i+1)
def XX(k:Addr):List (Addr × Value)→Option Value
 | []=>none
 | p::L=>if k=p.1 then some p.2 else XX k L
def Q0(k:Addr)(v:Value):List (Addr × Value)→List (Addr × Value)
 | []=>[(k,v)]
 | p::L=>if k=p.1 then (k,v)::L else p::Q0 k v L
theorem UW(k k':Addr)(v:Value):∀L:List (Addr × Value),XX k' (Q0 k v L)=if k'=k then some v else XX k' L
 | []=>by simp[Q0,XX]
 | p::L=>by
  unfold Q0;by_cases h:k=p.1
  ·rw[Z0 h];unfold XX;by_cases h2:k'=k
   ·simp[h2]
   simp[h2,←h]
  rw[ZZ h];unfold XX;rw[UW k k' v L];by_cases h2:k'=p.1
  ·rw[Z0 h2,Z0 h2,ZZ (fun e=>h (by rw[←e];exact h2))]
  rw[ZZ h2,ZZ h2]
theorem KE(k:Addr)(v:Value):∀L:List (Addr × Value),∀p∈Q0 k v L,p.1=k∨∃q∈L,q.1=p.1
 | [],p,h=>by
  unfold Q0 at h;rw[List.mem_singleton.1 h];exact .inl rfl
 | q::L,p,h=>by
  unfold Q0 at h;split at h
  ·rcases ZQ.1 h with rfl|h
   ·exact .inl rfl
   exact .inr ⟨p,by simp[h],rfl⟩
  rcases ZQ.1 h with rfl|h
  ·exact .inr ⟨p,by simp,rfl⟩
  rcases KE k v L p h with h|⟨r,hr,e⟩
  ·exact .inl h
  exact .inr ⟨r,by simp[hr],e⟩
theorem EK{k:Addr}(v:Value):∀{L:List (Addr × Value)},XX k L=none→Q0 k v L=L++[(k,v)]
 | [],_=>rfl
 | p::L,h=>by
  unfold XX at h;by_cases hk:k=p.1
  ·rw[Z0 hk] at h;cases h
  rw[ZZ hk] at h;unfold Q0;rw[ZZ hk,EK v h];rfl
theorem jI{k:Addr}(v:Value):∀{L:List (Addr × Value)},XX k L≠none→(Q0 k v L).map (·.1)=L.map (·.1)
 | [],h=>absurd rfl h
 | p::L,h=>by
  unfold XX at h;unfold Q0;by_cases hk:k=p.1
  ·rw[Z0 hk];simp[hk]
  rw[ZZ hk] at h;rw[ZZ hk,List.map_cons,jI v h];rfl
theorem Zad(k:Addr):∀(L:List (Addr × Value))(i:Nat),(Vn k L i).map (·.2)=XX k L:=by
 intro L
 induction L with
 | nil=>intro i;rfl
 | cons p L ih =>
  intro i;unfold Vn XX;by_cases h:k=p.1
  ·rw[Z0 h,Z0 h];rfl
  rw[ZZ h,ZZ h];exact ih (i+1)
theorem ue(k:Addr)(v:Value):∀(L:List (Addr × Value))(j:Nat),Vn k L j=none→Q0 k v L=L++[(k,v)]:=by
 intro L
 induction L with
 | nil=>intro j _;rfl
 | cons p L ih =>
  intro j h;unfold Vn at h;by_cases f:k=p.1
  ·rw[Z0 f] at h;cases h
  rw[ZZ f] at h;unfold Q0;rw[ZZ f,ih (j+1) h];rfl
theorem ug(k:Addr)(v:Value):∀(L:List (Addr × Value))(j i:Nat)(u:Value),Vn k L j=some (i,u)→∃n,i=j+n∧∃x,L[n]?=some (k,x)∧Q0 k v L=L.modify n (fun _=>(k,v)):=by
 intro L
 induction L with
 | nil=>intro j i u h;cases h
 | cons p L ih =>
  intro j i u h;unfold Vn at h;by_cases f:k=p.1
  ·rw[Z0 f] at h;obtain⟨rfl,_⟩:j=i∧_:=by simpa using h
   refine⟨0,rfl,p.2,?_,?_⟩
   ·rw[f];rfl
   unfold Q0;rw[Z0 f];rfl
  rw[ZZ f] at h;obtain⟨n,rfl,x,g,m⟩:=ih (j+1) i u h;refine⟨n+1,oq,x,by simpa using g,?_⟩;unfold Q0;rw[ZZ f,m];rfl
def JF(w:World)(mb:Nat)(L:List (Addr × Value)):Prop :=
 ∃arr clock,w.heap[mb]?=some (.map arr clock)∧arr.toList.map (fun e=>(e.key,e.val))=L.map (fun p=>(Value.pointer (some p.1),p.2))
theorem ZgF{T K E X:TypeId}{z:Value}(M:Qa T K E X z){w:World}{k:Addr}(y:K0 w k):∀(es:List MapEntry)(L:List (Addr × Value))(i:Nat),es.map (fun e=>(e.key,e.val))=L.map (fun p=>(Value.pointer (some p.1),p.2))→(∀p∈L,K0 w p.1) →
  (Instr.findAsking K (.pointer (some k)) es i).run prog w=.ok (Vn k L i) w:=by
 intro es
 induction es with
 | nil=>intro L i h _;cases L with
  | nil=>rfl
  | cons p L=>simp at h
 | cons e es ih =>
  intro L i h m
  cases L with
  | nil=>simp at h
  | cons p L =>
   simp only[List.map_cons,List.cons.injEq,Z2] at h;obtain⟨⟨j,v⟩,x⟩:=h;have g:=ZgH M y (m p (by simp));have hi:=ih L (i+1) x (fun q hq=>m q (by simp[hq]));unfold Vn;by_cases f:k=p.1
   ·rw[Z0 f];rw[ZY f] at g;simp[Instr.findAsking,j,g,v]
   rw[ZZ f];rw[ZX f] at g;simp[Instr.findAsking,j,g,hi]
theorem ZeU{T K E X:TypeId}{z:Value}(M:Qa T K E X z){w:World}{k:Addr}(j:K0 w k)(es:List MapEntry)(L:List (Addr × Value))(h:es.map (fun e=>(e.key,e.val))=L.map (fun p=>(Value.pointer (some p.1),p.2)))(f:∀p∈L,K0 w p.1) :
  (Instr.findKey K (.pointer (some k)) es).run prog w=.ok (Vn k L 0) w:=by
 have m:(underlying K).run prog w=.ok (.pointer X) w:=by rw[run_underlying M.key]
 unfold Instr.findKey;simp only[Sem.run_bind,m,ZO];have g:=ZgF M j es L 0 h f
 cases es with
 | nil=>cases L with
  | nil=>rfl
  | cons p L=>simp at h
 | cons e es =>
  have:Instr.findNow (.pointer X) (.pointer (some k)) (e::es) 0=none:=by unfold Instr.findNow Instr.sameNow;rfl
  rw[this];exact g
theorem Zar{T K E X:TypeId}{z:Value}(M:Qa T K E X z){w:World}{mb:Nat}{L:List (Addr × Value)}(h:JF w mb L)(j:∀p∈L,K0 w p.1){k:Addr}(A:K0 w k)(c:Bool) :
  (Instr.lookup T (.map (some mb)) (.pointer (some k)) c).run prog w=.ok (if c then .tuple #[(XX k L).getD z,.bool (XX k L).isSome] else (XX k L).getD z) w:=by
 obtain⟨arr,clock,y,q⟩:=h;have C:(underlying T).run prog w=.ok (.map K E) w:=by rw[run_underlying M.map]
 have x:(getObj mb).run prog w=.ok (.map arr clock) w:=run_getObj_map (w:=w) mb arr clock y;have m:=M.check arr.isEmpty (some k) w;have f:=Zad k L 0;have g:=ZeU M A arr.toList L q j;simp only[Instr.lookup,Sem.run_bind,C,ZO,x,Sem.run_pure];rw[m];simp only[ZO];rw[g];simp only[ZO];rw[←f]
 cases hr:Vn k L 0 with
 | none=>simp only[Sem.run_bind,M.zero,ZO,Sem.run_pure];cases c<;>rfl
 | some p=>obtain⟨i,v⟩:=p;simp only[Sem.run_bind,ZO,Sem.run_pure];cases c<;>rfl
theorem Zcf{T K E X:TypeId}{z:Value}(M:Qa T K E X z){w:World}{mb:Nat}{L:List (Addr × Value)}(h:JF w mb L)(Y:∀p∈L,K0 w p.1){k:Addr}(Z:K0 w k)(v:Value) :
  ∃arr clock n,(Instr.mapUpdate T (.map (some mb)) (.pointer (some k)) v).run prog w=.ok () (World.putM (w.drewN n) mb (.map arr clock))∧JF (World.putM (w.drewN n) mb (.map arr clock)) mb (Q0 k v L):=by
 obtain⟨arr,clock,F,D⟩:=h;have U:(underlying T).run prog w=.ok (.map K E) w:=by rw[run_underlying M.map]
 have R:(getObj mb).run prog w=.ok (.map arr clock) w:=run_getObj_map (w:=w) mb arr clock F;have O:=M.check false (some k) w;have y:=ZeU M Z arr.toList L D Y;have H:=Zb F;have f:∀(m:Nat) o,(World.putM (w.drewN m) mb o).heap[mb]?=some o:=by
  intro m o;show(w.heap.setIfInBounds mb o)[mb]?=some o;rw[Array.getElem?_setIfInBounds_self_of_lt H]
 cases hr:Vn k L 0 with
 | none =>
  refine⟨arr.push { key:=.pointer (some k),val:=v,born:=clock },clock+1,0,?_,⟨_,_,f _ _,?_⟩⟩
  ·simp only[Instr.mapUpdate,Sem.run_bind,U,ZO,R];rw[O];simp only[ZO];rw[y,hr];simp only[ZO];exact Go.MapKept.run_setObj_map (w:=w) _ F
  rw[ue k v L 0 hr];simp[D]
 | some q =>
  obtain⟨i,u⟩:=q;obtain⟨n,hn,x,J,V⟩:=ug k v L 0 i u hr;obtain rfl:i=n:=oq;have C:((arr[i]?).map (·.key)).getD (.pointer (some k))=.pointer (some k):=by
   have:=Z1 (fun l=>l[i]?) D;simp only[List.getElem?_map,J,Option.map_some] at this
   cases ha:arr[i]? with
   | none=>rfl
   | some e=>simp[ha] at this ⊢;exact this.1
  obtain⟨kk,m,I,G⟩:=zW (P:=prog) (.pointer (some k)) (.pointer (some k)) w;obtain rfl:kk=.pointer (some k):=by rcases G with h|h<;>exact h
  refine⟨arr.modify i fun e=>{ e with key:=.pointer (some k),val:=v },clock,m,?_,⟨_,_,f _ _,?_⟩⟩
  ·simp only[Instr.mapUpdate,Sem.run_bind,U,ZO,R];rw[O];simp only[ZO];rw[y,hr];simp only[ZO,Sem.run_bind,C];rw[I];simp only[ZO];exact Go.MapKept.run_setObj_map (w:=w.drewN m) _ F
  rw[V,Array.toList_modify];apply List.ext_getElem?;intro j;have g:=Z1 (fun l=>l[j]?) D;simp only[List.getElem?_map,List.getElem?_modify] at g ⊢;by_cases A:i=j
  ·subst A;rw[J] at g ⊢
   cases ha:arr.toList[i]? with
   | none=>rw[ha] at g;simp at g
   | some e=>simp
  simp only[A,if_false]
  cases ha:arr.toList[j]?<;>cases hb:L[j]?<;>rw[ha,hb] at g<;>simp at g ⊢
  exact g
theorem JF.keep{w w':World}{mb:Nat}{L:List (Addr × Value)}(h:JF w mb L)(e:w'.heap[mb]?=w.heap[mb]?):JF w' mb L:=by
 obtain⟨arr,clock,f,g⟩:=h;exact⟨arr,clock,e.trans f,g⟩
theorem JF.lt{w:World}{mb:Nat}{L:List (Addr × Value)}(h:JF w mb L):mb<w.heap.size:=by
 obtain⟨arr,clock,f,g⟩:=h;exact Zb f
theorem JF.new(w:World):JF (w.alloc (.map #[] 0)) w.heap.size []:=⟨#[],0,Yw w _,rfl⟩
theorem Vl{T K E X:TypeId}{z:Value}(M:Qa T K E X z)(w:World){g:Array Oper}{rest:List Oper}{o:Oper}{a:Act}{Q:Exit→Act→World→Prop}
  (v:o.guard=none)(m x:Operand)(c:Bool)(j:o.op=Op.lookup T m x c)(mb:Nat)(L:List (Addr × Value))(k:Addr)
  (A:a.eval m=.map (some mb))(D:a.eval x=.pointer (some k))(h:JF w mb L)(q:∀p∈L,K0 w p.1)(y:K0 w k)(u:Value)(C:(if c then .tuple #[(XX k L).getD z,.bool (XX k L).isSome] else (XX k L).getD z)=u)
  (hK:wpList prog g Q rest (a.put o.dst u) w) :
  wpList prog g Q (o::rest) a w:=by
 refine wpList_plain v fun K' hK'=>?_
 have f:=Zar M h q y c;have e:(execOp a.eval o).run prog w=.ok (.value u) w:=by
  rw[←C];simp[execOp,j,A,D,f]
 unfold Oper.wp;rw[e];exact hK' _ _ hK
theorem Gi{T K E X:TypeId}{z:Value}(M:Qa T K E X z)(w:World){g:Array Oper}{rest:List Oper}{o:Oper}{a:Act}{Q:Exit→Act→World→Prop}
  (A:o.guard=none)(m x v:Operand)(j:o.op=Op.mapUpdate T m x v)(mb:Nat)(L:List (Addr × Value))(k:Addr)(u:Value)
  (D:a.eval m=.map (some mb))(G:a.eval x=.pointer (some k))(F:a.eval v=u)(h:JF w mb L)(y:∀p∈L,K0 w p.1)(C:K0 w k)
  (hK:∀w',Upon mb w w'→w'.heap.size=w.heap.size→JF w' mb (Q0 k u L)→wpList prog g Q rest (a.put o.dst undef) w') :
  wpList prog g Q (o::rest) a w:=by
 refine wpList_plain A fun K' hK'=>?_
 obtain⟨arr,clock,n,f,q⟩:=Zcf M h y C u;unfold Oper.wp;simp[execOp,j,D,G,F,f,Result.andThen];exact hK' _ _ (hK _ (YN ((Upon.refl _ _).drewN n) _) (by simp[World.putM]) q)
theorem JZ:Qa 319 323 2 111 (.int .i64 0):=⟨by kernel_rfl,by kernel_rfl,fun w=>⟨5,by kernel_rfl⟩,fun w=>by kernel_rfl,fun b s w=>by cases b<;>kernel_rfl⟩
theorem yr:XP 363 9 2 (.int .i64 0):=⟨by kernel_rfl,by kernel_rfl,fun w=>by kernel_rfl,fun b s w=>by cases b<;>kernel_rfl⟩
structure RkM (w:World) (rb tb ma mq:Nat) (La:List (ByteArray × Value)) (L:List (Addr × Value)):Prop where
 box:w.heap[rb]?=some (.cells #[.func (.func 231) #[] #[.pointer (some ⟨tb,0,none⟩)],.map (some mq)] 321 (0,0))
 tb:w.heap[tb]?=some (.cells #[.map (some ma)] 363 (0,0))
 args:YP w ma La
 vals:JF w mq L
 ks:∀p∈L,K0 w p.1
def TV(La:List (ByteArray × Value))(T:ByteArray→Int):Prop:=∀nm,(Xb nm La).getD (.int .i64 0)=.int .i64 (T nm)
theorem kT{w:World}{b:Nat}{f:Value}{t:TypeId}(h:w.heap[b]?=some (.cells #[f] t (0,0))):w.cell? ⟨b,0,none⟩=some f:=by simp[World.cell?,h]
theorem jY{w:World}{v g:Nat}{f:List (ByteArray × Value)}{T:ByteArray→Int}(j:w.heap[v]?=some (.cells #[.map (some g)] 363 (0,0)))(m:YP w g f)(q:TV f T)(nm:ByteArray) :
  Calls prog 231 #[.string nm,.pointer (some ⟨v,0,none⟩)] w fun x w'=>x=.returned (.int .i64 (T nm))∧w'=w:=by
 have c0:=kT j;have y:=hid m;have z:=hid (q nm);clear j m q;go_enter func231,ntmps231;go_wp2_with (at_lookup;refine QC yr _ rfl _ _ rfl g f nm _ rfl rfl y.out z.out ?_);go_ret;exact⟨rfl,rfl⟩
theorem At.cells{w:World}{x:Addr}{e:PE}(h:At w x e):∃b o ad cap,x=⟨b,o,none⟩∧w.cell? ⟨b,o,none⟩=some (.int .i64 e.k)∧w.cell? ⟨b,o+1,none⟩=some (.string e.nm)∧w.cell? ⟨b,o+2,none⟩=some (.int .i64 e.n)∧w.cell? ⟨b,o+4,none⟩=some (.slice ad e.args.len cap):=by
 obtain⟨b,o,ad,cap,f,_,g,j,m,_,_,q,_⟩:=h;exact⟨b,o,ad,cap,f,g,j,m,q⟩
theorem At.keep{w w':World}{x:Addr}{e:PE}(h:At w x e)(j:Same (fun _=>True) w w'):At w' x e:=by
 obtain⟨b,o,m,cap,v,⟨q,t,g⟩,y,z,A,C,D,E,F,G⟩:=h;have hb:=j.block b trivial (Zb g);have f:∀o,w'.cell? ⟨b,o,none⟩=w.cell? ⟨b,o,none⟩:=fun o=>Zn (w:=w) (a:=⟨b,o,none⟩) hb
 exact⟨b,o,m,cap,v,⟨q,t,hb.trans g⟩,(f _).trans y,(f _).trans z,(f _).trans A,(f _).trans C,(f _).trans D,(f _).trans E,F,G.keep j⟩
theorem At.drewN{w:World}{x:Addr}{e:PE}(h:At w x e)(n:Nat):At (w.drewN n) x e:=h.keep ((Same.refl _ _).drewN n)
theorem At.k0{w:World}{x:Addr}{e:PE}(h:At w x e):K0 w x:=by
 obtain⟨b,o,m,cap,g,⟨f,t,j⟩,_⟩:=h;exact⟨b,o,f,t,g,j⟩
theorem EU{w:World}{A H O R:Nat}{C:List (ByteArray × Value)}{L:List (Addr × Value)}{T:ByteArray→Int}(v:RkM w A H O R C L)(D:TV C T){x:Addr}{e:PE}(E:At w x e) :
  Calls prog 248 #[.pointer (some ⟨A,0,none⟩),.pointer (some x)] w fun y w'=>y=.returned (.int .i64 (sgE T e.k e.nm e.n))∧∃m,w'=w.drewN m:=by
 obtain⟨b,o,U,cap,rfl,c0,c1,c2,_⟩:=E.cells;have V:w.cell? ⟨A,0,none⟩=some (.func (.func 231) #[] #[.pointer (some ⟨H,0,none⟩)]):=by simp[World.cell?,v.box]
 have z:=hid (fun m nm=>jY (w:=w.drewN m) v.tb v.args D nm);obtain⟨I,f⟩:=ez (sgE T e.k e.nm e.n);rw[f];obtain⟨k,F⟩:∃k,e.k=k:=⟨_,rfl⟩;obtain⟨nm,q⟩:∃nm,e.nm=nm:=⟨_,rfl⟩;obtain⟨n,G⟩:∃n,e.n=n:=⟨_,rfl⟩;rw[F] at c0 f;rw[q] at c1 f;rw[G] at c2 f;unfold sgE at f;clear v D E F q G;by_cases g:k=11
 ·rw[Z0 g] at f;subst f;subst g;go_enter func248,ntmps248;go_wp2;go_region_with (go_at_call 231;refine(z.out _ _).mono ?_;rintro y X ⟨rfl,rfl⟩)
  all_goals go_wp2
  all_goals (go_ret;exact⟨rfl,_,rfl⟩)
 rw[ZZ g] at f;have J:(k == 11)=false:=ZW.2 g;by_cases j:k=12
 ·rw[Z0 j] at f;subst f;subst j;go_enter func248,ntmps248;go_wp2;go_ret;exact⟨rfl,0,rfl⟩
 rw[ZZ j] at f;have M:(k == 12)=false:=ZW.2 j;subst f;go_enter func248,ntmps248;go_wp2;go_ret;exact⟨rfl,0,rfl⟩
def Qv(T:ByteArray→Int)(L:List (Addr × Value))(l:PL)(b o i:Nat):Value × Option Addr:=match l.at i with
 | none=>(.int .i64 0,none)
 | some e=>if e.k=13 then (match XX ⟨b,o+i*6,none⟩ L with
   | some v=>(v,none)
   | none=>(.int .i64 0,some ⟨b,o+i*6,none⟩))
  else (.int .i64 (sgE T e.k e.nm e.n),none)
theorem PL.at_none:∀(l:PL)(i:Nat),l.len≤i→l.at i=none
 | .nil,_,_=>rfl
 | .cons _ _ _ _ _ _ tl,0,h=>by simp[PL.len] at h
 | .cons _ _ _ _ _ _ tl,i+1,h=>PL.at_none tl i (by simp only[PL.len] at h;omega)
theorem RkM.drewN{w:World}{rb tb ma mq:Nat}{La:List (ByteArray × Value)}{L:List (Addr × Value)}(h:RkM w rb tb ma mq La L)(n:Nat):RkM (w.drewN n) rb tb ma mq La L:=⟨h.box,h.tb,h.args,h.vals,h.ks⟩
theorem yv{w:World}{rb tb ma X:Nat}{La:List (ByteArray × Value)}{L:List (Addr × Value)}{T:ByteArray→Int}(G:RkM w rb tb ma X La L)(Z:TV La T){bx H:Nat}{e:PE}(V:At w ⟨bx,H,none⟩ e)(hl:e.args.len≤1000)(i:Nat)(hi:i≤2)(b o:Nat)
  (C:∀ad cap,w.cell? ⟨bx,H+4,none⟩=some (.slice ad e.args.len cap)→e.args.len=0∨ad=some ⟨b,o,none⟩) :
  Calls prog 249 #[.pointer (some ⟨rb,0,none⟩),.pointer (some ⟨bx,H,none⟩),.int .i64 (i:Int)] w fun y w'=>y=.returned (.tuple #[(Qv T L e.args b o i).1,.pointer (Qv T L e.args b o i).2])∧∃m,w'=w.drewN m:=by
 obtain⟨b',o',ad,cap,hx,c0,c1,c2,c4⟩:=V.cells;injection hx with hx1 hx2
 subst hx1;subst hx2;have A:=C ad cap c4;by_cases D:i<e.args.len
 ·obtain⟨g,j,aa,E,F,O,z⟩:=V.arg D;rw[show(⟨bx,H,none⟩:Addr).block=bx from rfl,show(⟨bx,H,none⟩:Addr).off=H from rfl,c4] at E;injection E with E
  injection E with E _ d5
  subst E;subst d5;rcases A with h|h
  ·omega
  injection h with h
  injection h with h h'
  subst h;subst h';obtain⟨b3,o3,ac,ab,hx,f0,f1,f2,f4⟩:=z.cells;injection hx with hx1 hx2
  subst hx1;subst hx2;have M:=hid (fun m=>EU (w:=w.drewN m) (G.drewN m) Z (x:=⟨g,j+i*6,none⟩) (e:=F) (z.drewN m));have q1:w.cell? ⟨rb,1,none⟩=some (.map (some X)):=by simp[World.cell?,G.box]
  have HV:=hid G.vals;have J:=hid G.ks;have I:=hid z.k0;have f:Qv T L e.args g j i=if F.k=13 then (match XX ⟨g,j+i*6,none⟩ L with
    | some v=>(v,none)
    | none=>(.int .i64 0,some ⟨g,j+i*6,none⟩)) else (.int .i64 (sgE T F.k F.nm F.n),none):=by unfold Qv;rw[O]
  obtain⟨ae,ha⟩:=ez (Qv T L e.args g j i);rw[ha] at f ⊢;have i0:(0:Int)≤(i:Int):=oq;have i1:(i:Int)<(e.args.len:Int):=oq;have i2:¬(i:Int)≥(e.args.len:Int):=oq;obtain⟨k',R⟩:=ez F.k;rw[R] at f0 f M;obtain⟨ln,U⟩:=ez e.args.len;rw[U] at c4 i1 i2 hl;clear G Z V C ha O z c0 c1 c2 f1 f2 f4 R U D;by_cases q:k'=13
  ·rw[Z0 q] at f;subst q
   cases hg:XX ⟨g,j+i*6,none⟩ L with
   | some v =>
    rw[hg] at f;subst f;have Y:=hid (show Value.tuple #[(XX ⟨g,j+i*6,none⟩ L).getD (.int .i64 0),.bool (XX ⟨g,j+i*6,none⟩ L).isSome]=.tuple #[v,.bool true] by rw[hg];rfl);clear hg;go_enter func249,ntmps249;go_wp2_with (at_lookup;refine Vl JZ _ rfl _ _ true rfl X L ⟨g,j+i*6,none⟩ rfl rfl HV.out J.out I.out _ Y.out ?_);go_ret2;exact⟨rfl,0,rfl⟩
   | none =>
    rw[hg] at f;subst f;have Y:=hid (show Value.tuple #[(XX ⟨g,j+i*6,none⟩ L).getD (.int .i64 0),.bool (XX ⟨g,j+i*6,none⟩ L).isSome]=.tuple #[.int .i64 0,.bool false] by rw[hg];rfl);clear hg;go_enter func249,ntmps249;go_wp2_with (at_lookup;refine Vl JZ _ rfl _ _ true rfl X L ⟨g,j+i*6,none⟩ rfl rfl HV.out J.out I.out _ Y.out ?_);go_ret2;exact⟨rfl,0,rfl⟩
  rw[ZZ q] at f;subst f;have af:(k' != 13)=true:=bne_iff_ne.2 q;go_enter func249,ntmps249;go_wp2_with (go_at_call 248;refine(M.out 0).mono ?_;rintro y w2 ⟨rfl,m2,rfl⟩);go_ret2;exact⟨rfl,_,rfl⟩
 have f:Qv T L e.args b o i=(.int .i64 0,none):=by unfold Qv;rw[PL.at_none _ _ oq]
 rw[f];have i2:(i:Int)≥(e.args.len:Int):=oq;clear G Z V C A f D;go_enter func249,ntmps249;go_wp2;go_ret2;exact⟨rfl,0,rfl⟩
structure Ze3 (T:ByteArray→Int) (e:PE) (i:Nat) (r:Value × Option Addr):Prop where
 val:r.2=none→r.1=.int .i64 (evA T e.args i)
 mis:∀a,r.2=some a→r.1=.int .i64 0
def rkV(T:ByteArray→Int)(e:PE)(r:Nat→Value × Option Addr):Value × Option Addr :=
 if e.k=13 then
  (if (r 0).2≠none then (.int .i64 0,(r 0).2)
  else if e.nm.toList=[63] then (if evA T e.args 0≠0 then r 1 else r 2)
  else if (r 1).2≠none then (.int .i64 0,(r 1).2) else (.int .i64 (evE T e),none))
 else (.int .i64 (sgE T e.k e.nm e.n),none)
def Zgm(T:ByteArray→Int)(l:PL):Prop:=∀i,-9223372036854775808≤evA T l i∧evA T l i≤9223372036854775807
theorem uL{w:World}{rb tb ma mq:Nat}{La:List (ByteArray × Value)}{L:List (Addr × Value)}{T:ByteArray→Int}(hr:RkM w rb tb ma mq La L)(hT:TV La T){bx ox:Nat}{e:PE}(he:At w ⟨bx,ox,none⟩ e)(hl:e.args.len≤1000)(F:Zgm T e.args)(b o:Nat)
  (Y:∀ad cap,w.cell? ⟨bx,ox+4,none⟩=some (.slice ad e.args.len cap)→e.args.len=0∨ad=some ⟨b,o,none⟩)(A:∀i,Ze3 T e i (Qv T L e.args b o i)) :
  Calls prog 232 #[.pointer (some ⟨rb,0,none⟩),.pointer (some ⟨bx,ox,none⟩)] w fun y w'=>y=.returned (.tuple #[(rkV T e (Qv T L e.args b o)).1,.pointer (rkV T e (Qv T L e.args b o)).2])∧∃m,w'=w.drewN m:=by
 obtain⟨b',o',ad,cap,hx,c0,c1,c2,c4⟩:=he.cells;injection hx with G hx2
 subst G;subst hx2;have D:=hid (fun(m i:Nat) (hi:i≤2)=>yv (w:=w.drewN m) (hr.drewN m) hT (he.drewN m) hl i hi b o Y);have V:=hid (fun m=>EU (w:=w.drewN m) (hr.drewN m) hT (x:=⟨bx,ox,none⟩) (e:=e) (he.drewN m));obtain⟨r,aa⟩:=ez (Qv T L e.args b o);rw[aa] at D A ⊢;obtain⟨k,hk⟩:∃k,e.k=k:=⟨_,rfl⟩;obtain⟨J,I⟩:∃J,e.nm=J:=⟨_,rfl⟩;obtain⟨ab,f⟩:=ez (rkV T e r);rw[f];unfold rkV at f;rw[hk] at c0 f;have U:=hid (show k=13→evE T e=opE J (evA T e.args 0) (evA T e.args 1) (evA T e.args 2) from fun h=>by unfold evE;rw[hk,Z0 h,I]);rw[hk,I] at V;rw[I] at c1 f;have q0:=A 0;have q1:=A 1;have z:=hid (fun m=>D.out m 0 oq);have C:=hid (fun m=>D.out m 1 oq);have H:=hid (fun m=>D.out m 2 oq);rw[show((0:Nat):Int)=0 from rfl] at z;rw[show((1:Nat):Int)=1 from rfl] at C;rw[show((2:Nat):Int)=2 from rfl] at H;have v:=hid (fun m=>body.ZfN J (evA T e.args 0) (evA T e.args 1) (w.drewN m) (F 0).1 (F 0).2 (F 1).1 (F 1).2);obtain⟨x0,O⟩:=ez (evA T e.args 0);obtain⟨x1,G⟩:=ez (evA T e.args 1);have j:=q0.val;have q:=q1.val;rw[O] at f v j;rw[G] at v q;have g:=hid (show k=13→evE T e=opE J x0 x1 (evA T e.args 2) from fun h=>by rw[U.out h,O,G]);obtain⟨ev,Z⟩:=ez (evE T e);rw[Z] at f g;clear hr hT he hl F Y A D aa hk I q0 q1 O G U Z;by_cases E:k=13
 ·have R:=g.out E;rw[Z0 E] at f;subst E
  cases h0:r 0 with
  | mk v0 a0 =>
   rw[h0] at z f j;simp only at z f j
   cases a0 with
   | some a =>
    rw[Z0 (by simp)] at f;subst f;clear C H v j q R g h0;go_enter func232,ntmps232;go_wp2_with (go_at_call 249;refine(z.out 0).mono ?_;rintro y w2 ⟨rfl,m2,rfl⟩);go_ret2;exact⟨rfl,_,rfl⟩
   | none =>
    rw[ZZ (by simp)] at f;have M:=j rfl;subst M;by_cases A:J.toList=[63]
    ·rw[Z0 A] at f;obtain rfl:=body.XE A;by_cases hz:x0=0
     ·rw[ZZ (by simp[hz])] at f;subst hz
      cases h2:r 2 with
      | mk v2 a2 =>
       rw[h2] at H f;subst f;simp only at H;clear C v j q R g h0 h2 A;go_enter func232,ntmps232;go_wp2_with (first|(go_at_call 249;refine(z.out 0).mono ?_;rintro y w2 ⟨rfl,m2,rfl⟩;clear z)|(go_at_call 249;refine(H.out _).mono ?_;rintro y w3 ⟨rfl,m3,rfl⟩));go_ret2;exact⟨rfl,_,rfl⟩
     rw[Z0 hz] at f;have af:(x0 != 0)=true:=bne_iff_ne.2 hz
     cases h1:r 1 with
     | mk v1 a1 =>
      rw[h1] at C f;subst f;simp only at C;clear H v j q R g h0 h1 A;go_enter func232,ntmps232;go_wp2_with (first|(go_at_call 249;refine(z.out 0).mono ?_;rintro y w2 ⟨rfl,m2,rfl⟩;clear z)|(go_at_call 249;refine(C.out _).mono ?_;rintro y w3 ⟨rfl,m3,rfl⟩));go_ret2;exact⟨rfl,_,rfl⟩
    rw[ZZ A] at f;have ae:(J.toList == [63])=false:=by simpa using A
    cases h1:r 1 with
    | mk v1 a1 =>
     rw[h1] at C f q;simp only at C f q
     cases a1 with
     | some a =>
      rw[Z0 (by simp)] at f;subst f;clear H v j q R g h0 h1;go_enter func232,ntmps232;go_wp2_with (first|(go_at_call 249;refine(z.out 0).mono ?_;rintro y w2 ⟨rfl,m2,rfl⟩;clear z)|(go_at_call 249;refine(C.out _).mono ?_;rintro y w3 ⟨rfl,m3,rfl⟩));go_ret2;exact⟨rfl,_,rfl⟩
     | none =>
      rw[ZZ (by simp)] at f;have M:=q rfl;subst M;have X:ev=body.opP J.toList x0 x1:=by rw[R];unfold opE;rw[ZZ A]
      rw[←X] at v;subst f;clear H j q R g h0 h1 X;go_enter func232,ntmps232;go_wp2_with (first|(go_at_call 249;refine(z.out 0).mono ?_;rintro y w2 ⟨rfl,m2,rfl⟩;clear z)|(go_at_call 249;refine(C.out _).mono ?_;rintro y w3 ⟨rfl,m3,rfl⟩)|(go_at_call 250;refine(v.out _).mono ?_;rintro y w4 ⟨rfl,m4,rfl⟩));go_ret2;exact⟨rfl,_,rfl⟩
 rw[ZZ E] at f;subst f;have ac:(k != 13)=true:=bne_iff_ne.2 E;clear z C H v j q g;go_enter func232,ntmps232;go_wp2_with (go_at_call 248;refine(V.out 0).mono ?_;rintro y w2 ⟨rfl,m2,rfl⟩);go_ret2;exact⟨rfl,_,rfl⟩
def Vs(w:World):PL→Nat→Nat→List Addr
 | .nil,_,_=>[]
 | .cons _ _ _ _ args _ tl,b,o=>⟨b,o,none⟩::((match w.cell? ⟨b,o+4,none⟩ with
  | some (.slice (some x) _ _)=>Vs w args x.block x.off
  | _=>[])++Vs w tl b (o+6))
theorem uC(w:World):∀(l:PL)(b o i:Nat),i<l.len→(⟨b,o+i*6,none⟩:Addr)∈Vs w l b o
 | .nil,_,_,_,h=>absurd h (Yj _)
 | .cons _ _ _ _ args _ tl,b,o,0,_=>by unfold Vs;simp
 | .cons _ _ _ _ args _ tl,b,o,i+1,h=>by
  have:=uC w tl b (o+6) i (by simp only[PL.len] at h;omega);unfold Vs;rw[show o+(i+1)*6=o+6+i*6 by omega];simp[this]
def Clo(w:World)(occ:List Addr)(x:Addr):Prop:=∃e,At w x e∧∀b o cap,w.cell? ⟨x.block,x.off+4,none⟩=some (.slice (some ⟨b,o,none⟩) e.args.len cap)→∀i,i<e.args.len→(⟨b,o+i*6,none⟩:Addr)∈occ
theorem Clo.mono{w:World}{g f:List Addr}{x:Addr}(h:Clo w g x)(q:∀y∈g,y∈f):Clo w f x:=by
 obtain⟨e,j,m⟩:=h;exact⟨e,j,fun b o cap hc i hi=>q _ (m b o cap hc i hi)⟩
theorem uD{w:World}:∀(l:PL)(b o:Nat),(∃cs t,w.heap[b]?=some (.cells cs t (0,0)))→Qm w (fun _=>True) b l o→∀x∈Vs w l b o,Clo w (Vs w l b o) x:=by
 intro l
 induction l with
 | nil=>intro b o _ _ x f;cases f
 | cons k nm n d args a tl ih1 ih2 =>
  intro b o hb h x f;have m:=EV (.cons k nm n d args a tl) b o 0 ⟨k,nm,n,d,args,a⟩ hb h rfl;obtain⟨C,D,E,F,G,⟨j,cap,v,A,hd⟩,ht⟩:=h;have g:Vs w (.cons k nm n d args a tl) b o=⟨b,o,none⟩::((match j with|some x=>Vs w args x.block x.off|none=>[])++Vs w tl b (o+6)):=by
   conv=>lhs;unfold Vs
   rw[v]
   cases j<;>rfl
  rw[g] at f ⊢;rcases ZQ.1 f with rfl|f
  ·refine⟨⟨k,nm,n,d,args,a⟩,by simpa using m,fun b' o' cap' hc i hi=>?_⟩;rw[v] at hc;simp only[Option.some.injEq,Value.slice.injEq] at hc;obtain⟨rfl,_,_⟩:=hc;have:=uC w args b' o' i hi;simp[this]
  rcases List.mem_append.1 f with f|f
  ·cases j with
   | none=>cases f
   | some y =>
    rcases hd with rfl|⟨b',o',e,⟨_,cs,hcs⟩,hd⟩
    ·cases f
    injection e with e
    subst e;exact(ih1 b' o' ⟨cs,_,hcs⟩ hd x f).mono (fun z hz=>by
     have q:z∈Vs w args b' o':=hz;simp[q])
  exact(ih2 b (o+6) hb ht x f).mono (fun z hz=>by simp[hz])
theorem Zd8{w:World}{R:PE→Prop}(C:∀e i f,R e→e.args.at i=some f→R f):∀(l:PL)(b o:Nat),(∃cs t,w.heap[b]?=some (.cells cs t (0,0)))→Qm w (fun _=>True) b l o→(∀i f,l.at i=some f→R f)→∀x∈Vs w l b o,∃e,At w x e∧R e:=by
 intro l
 induction l with
 | nil=>intro b o _ _ _ x g;cases g
 | cons k nm n d args a tl ih1 ih2 =>
  intro b o hb h z x g;have q:=EV (.cons k nm n d args a tl) b o 0 ⟨k,nm,n,d,args,a⟩ hb h rfl;have v:=z 0 ⟨k,nm,n,d,args,a⟩ rfl;obtain⟨_,_,_,_,_,⟨m,cap,A,_,hd⟩,ht⟩:=h;have j:Vs w (.cons k nm n d args a tl) b o=⟨b,o,none⟩::((match m with|some x=>Vs w args x.block x.off|none=>[])++Vs w tl b (o+6)):=by
   conv=>lhs;unfold Vs
   rw[A]
   cases m<;>rfl
  rw[j] at g;rcases ZQ.1 g with rfl|g
  ·exact⟨_,by simpa using q,v⟩
  rcases List.mem_append.1 g with g|g
  ·cases m with
   | none=>cases g
   | some y =>
    rcases hd with rfl|⟨b',o',e,⟨_,cs,hcs⟩,hd⟩
    ·cases g
    injection e with e
    subst e;exact ih1 b' o' ⟨cs,_,hcs⟩ hd (fun i f hf=>C _ i f v hf) x g
  exact ih2 b (o+6) hb ht (fun i f hf=>z (i+1) f hf) x g
theorem ZfJ{w:World}{C:Addr}{g:PE}(h:At w C g):∃occ:List Addr,C∈occ∧(∀x∈occ,Clo w occ x)∧∀R:PE→Prop,(∀e i f,R e→e.args.at i=some f→R f)→R g→∀x∈occ,∃e,At w x e∧R e:=by
 obtain⟨b,o,D,cap,rfl,hb,q,E,F,G,H,A,v,y⟩:=h;have j:At w ⟨b,o,none⟩ g:=⟨b,o,D,cap,rfl,hb,q,E,F,G,H,A,v,y⟩;rcases y with y|⟨b',o',rfl,⟨_,cs,hcs⟩,hc⟩
 ·refine⟨[⟨b,o,none⟩],by simp,fun x hx=>?_,fun R _ q x hx=>⟨g,by rw[List.mem_singleton.1 hx];exact j,q⟩⟩;rw[List.mem_singleton.1 hx];exact⟨g,j,fun b' o' cap' _ i hi=>by rw[y] at hi;exact absurd hi (Yj _)⟩
 refine⟨⟨b,o,none⟩::Vs w g.args b' o',by simp,fun x hx=>?_,fun R hR q x hx=>by
  rcases ZQ.1 hx with rfl|hx
  ·exact⟨g,j,q⟩
  exact Zd8 hR g.args b' o' ⟨cs,_,hcs⟩ hc (fun i f hf=>hR g i f q hf) x hx⟩
 rcases ZQ.1 hx with rfl|hx
 ·refine⟨g,j,fun b2 o2 cap2 hc2 i hi=>?_⟩;have m:w.cell? ⟨b,o+4,none⟩=some (.slice (some ⟨b2,o2,none⟩) g.args.len cap2):=hc2;rw[A] at m;simp only[Option.some.injEq,Value.slice.injEq,Addr.mk.injEq,and_true] at m;obtain⟨⟨rfl,rfl⟩,_⟩:=m;have:=uC w g.args b' o' i hi;simp[this]
 exact(uD g.args b' o' ⟨cs,_,hcs⟩ hc x hx).mono (fun z hz=>by simp[hz])
structure Ub (w:World) (T:ByteArray→Int) (x0:Addr) (e0:PE) (occ:List Addr) (Ws:List Addr) (L:List (Addr × Value)):Prop where
 st:∀(i:Nat)(x:Addr),Ws[i]?=some x→∃e,At w x e∧x∈occ∧e.sz+i≤e0.sz∧(i=0→x=x0)
 dec:∀(i j:Nat)(x y:Addr)(e f:PE),i<j→Ws[i]?=some x→Ws[j]?=some y→At w x e→At w y f→f.sz<e.sz
 keys:∀p∈L,p.1∈occ∧K0 w p.1
 nodup:(L.map (·.1)).Nodup
 good:∀x v,XX x L=some v→x∈Ws∨∃e,At w x e∧v=.int .i64 (evE T e)
 fin:Ws=[]→XX x0 L=some (.int .i64 (evE T e0))
variable {w:World} {T:ByteArray→Int} {x0:Addr} {e0:PE} {occ Ws:List Addr} {L:List (Addr × Value)}
theorem zP:∀(l m:List Addr),l.Nodup→(∀a∈l,a∈m)→l.length≤m.length
 | [],m,_,_=>Zk _
 | a::l,m,hn,hs=>by
  rw[List.nodup_cons] at hn;have ha:=hs a (by simp);have h1:=zP l (m.erase a) hn.2 (fun b hb=>(List.mem_erase_of_ne (fun e=>hn.1 (by rw[←e];exact hb))).2 (hs b (by simp[hb])));rw[List.length_erase_of_mem ha] at h1;have:=List.length_pos_of_mem ha;simp only[Zp];omega
theorem KJ:∀(l:PL)(i:Nat),l.szFrom i≤l.sz
 | .nil,_=>Zc _
 | .cons _ _ _ _ _ _ tl,0=>Zc _
 | .cons k nm n d args a tl,i+1=>by
  have:=KJ tl i;show tl.szFrom i≤args.sz+1+tl.sz;omega
theorem Ub.len(h:Ub w T x0 e0 occ Ws L):Ws.length≤e0.sz:=by
 by_cases g:Ws.length=0
 ·omega
 obtain⟨e,_,_,f,_⟩:=h.st (Ws.length-1) _ (Ze oq);have:1≤e.sz:=by unfold PE.sz;omega
 omega
theorem Ub.few(h:Ub w T x0 e0 occ Ws L):L.length≤occ.length:=by
 have f:=h.nodup;have:=zP _ occ f (fun a ha=>by
  obtain⟨p,g,rfl⟩:=Yc.1 ha;exact(h.keys p g).1)
 simpa using this
theorem qK{k:Addr}:∀{L:List (Addr × Value)},k∈L.map (·.1)→XX k L≠none
 | [],h=>by cases h
 | p::L,h=>by
  unfold XX;by_cases hk:k=p.1
  ·rw[Z0 hk];simp
  rw[ZZ hk];refine qK ?_;rcases ZQ.1 h with h|h
  ·exact absurd h hk
  exact h
theorem Ve{k:Addr}{v:Value}{L:List (Addr × Value)}(h:(L.map (·.1)).Nodup):((Q0 k v L).map (·.1)).Nodup∧L.length≤(Q0 k v L).length:=by
 by_cases f:XX k L=none
 ·rw[EK v f];constructor
  ·rw[ZT,List.nodup_append];refine⟨h,by simp,?_⟩;intro a g b hb e;simp at hb;subst hb;subst e;exact qK g f
  simp
 have:=jI v f;constructor
 ·rw[this];exact h
 have:=Z1 List.length this;simp at this;omega
theorem Ub.push(h:Ub w T x0 e0 occ Ws L){x:Addr}{e:PE}(H:Ws[Ws.length-1]?=some x)(I:At w x e){y:Addr}{f:PE}(hy:At w y f)(F:y∈occ)(R:f.sz<e.sz)(hg:XX y L=none):Ub w T x0 e0 occ (Ws++[y]) (Q0 y (.int .i64 0) L):=by
 have hn:=(Zz.1 H).1;refine⟨?_,?_,?_,(Ve h.nodup).1,?_,fun h=>by simp at h⟩
 ·intro i z g;by_cases hi:i<Ws.length
  ·rw[List.getElem?_append_left hi] at g;exact h.st i z g
  have C:i<(Ws++[y]).length:=(Zz.1 g).1;simp at C;obtain rfl:i=Ws.length:=oq;simp at g;subst g;obtain⟨Y,J,_,Z,_⟩:=h.st _ x H;have:=J.one I;subst this;exact⟨f,hy,F,oq,fun h0=>oq⟩
 ·intro i j a b O U E m hb A D;by_cases V:j<Ws.length
  ·rw[List.getElem?_append_left V] at hb;rw[List.getElem?_append_left oq] at m;exact h.dec i j a b O U E m hb A D
  have M:j<(Ws++[y]).length:=(Zz.1 hb).1;simp at M;obtain rfl:j=Ws.length:=oq;simp at hb;subst hb;have:=D.one hy;subst this;rw[List.getElem?_append_left E] at m;by_cases C:i=Ws.length-1
  ·subst C;rw[H] at m;injection m with m
   subst m;have:=A.one I;subst this;exact R
  exact Nat.lt_trans R (h.dec i (Ws.length-1) a x O e oq m H A I)
 ·intro p X;rcases KE _ _ _ p X with h1|⟨q,hq,h1⟩
  ·rw[h1];exact⟨F,hy.k0⟩
  rw[←h1];exact h.keys q hq
 intro z v g;rw[UW] at g;by_cases G:z=y
 ·exact .inl (by simp[G])
 rw[ZZ G] at g;rcases h.good z v g with h1|h1
 ·exact .inl (by simp[h1])
 exact .inr h1
theorem Ub.pop(h:Ub w T x0 e0 occ Ws L)(H:At w x0 e0){x:Addr}{e:PE}(D:Ws[Ws.length-1]?=some x)(C:At w x e):Ub w T x0 e0 occ (Ws.take (Ws.length-1)) (Q0 x (.int .i64 (evE T e)) L):=by
 have U:=(Zz.1 D).1;have m:∀(i:Nat)(z:Addr),(Ws.take (Ws.length-1))[i]?=some z→Ws[i]?=some z∧i<Ws.length-1:=by
  intro i z f;have hi:i<(Ws.take (Ws.length-1)).length:=(Zz.1 f).1;rw[Z9] at hi;rw[Ym oq] at f;exact⟨f,oq⟩
 obtain⟨O,I,F,_,E⟩:=h.st _ x D;refine⟨fun i z f=>h.st i z (m i z f).1,fun i j a b ea eb hij ha hb hea heb=>h.dec i j a b ea eb hij (m i a ha).1 (m j b hb).1 hea heb,?_,(Ve h.nodup).1,?_,?_⟩
 ·intro p M;rcases KE _ _ _ p M with h1|⟨q,hq,h1⟩
  ·rw[h1];exact⟨F,C.k0⟩
  rw[←h1];exact h.keys q hq
 ·intro z v f;rw[UW] at f;by_cases g:z=x
  ·rw[Z0 g] at f;injection f with f
   subst f;subst g;exact .inr ⟨e,C,rfl⟩
  rw[ZZ g] at f;rcases h.good z v f with h1|h1
  ·left;obtain⟨i,hi⟩:=List.mem_iff_getElem?.1 h1;have J:i<Ws.length:=(Zz.1 hi).1;by_cases y:i=Ws.length-1
   ·rw[y,D] at hi;injection hi with hi
    exact absurd hi.symm g
   exact List.mem_iff_getElem?.2 ⟨i,by rw[Ym oq];exact hi⟩
  exact .inr h1
 intro A;have R:Ws.length=1:=by
  have:=Z1 List.length A;rw[Z9] at this;simp at this;omega
 have G:x=x0:=E oq;subst G;have:=C.one H;subst this;rw[UW,Z0 rfl]
theorem Ub.start(m:At w x0 e0)(z:x0∈occ):Ub w T x0 e0 occ [x0] []:=by
 refine⟨?_,?_,(fun p hp=>by cases hp),(by simp),(fun x v h=>by cases h),(fun h=>by cases h)⟩
 ·intro i x g
  cases i with
  | zero =>
   simp at g;subst g;exact⟨e0,m,z,oq,fun _=>rfl⟩
  | succ i=>simp at g
 intro i j x y e f q g hy
 cases j with
 | zero=>omega
 | succ j=>simp at hy
theorem Ub.told(h:Ub w T x0 e0 occ Ws L){x:Addr}{e:PE}(G:Ws[Ws.length-1]?=some x)(F:At w x e)(b o:Nat)(E:∀e' j,e.args.at j=some e'→At w ⟨b,o+j*6,none⟩ e')(i:Nat):Ze3 T e i (syn.Qv T L e.args b o i):=by
 cases hi:e.args.at i with
 | none =>
  have g:syn.Qv T L e.args b o i=(.int .i64 0,none):=by unfold syn.Qv;rw[hi]
  rw[g];refine⟨fun _=>?_,fun a h=>by cases h⟩;rw[qc T e.args i (by
   by_cases q:e.args.len≤i
   ·exact q
   obtain⟨e',z,_⟩:=PL.at_some e.args i oq;rw[hi] at z
   cases z)]
 | some e' =>
  have m:=E e' i hi;have A:evA T e.args i=evE T e':=Vy T e.args i e' hi;by_cases D:e'.k=13
  ·cases hg:XX ⟨b,o+i*6,none⟩ L with
   | none =>
    have g:syn.Qv T L e.args b o i=(.int .i64 0,some ⟨b,o+i*6,none⟩):=by unfold syn.Qv;rw[hi];simp only;rw[Z0 D,hg]
    rw[g];exact⟨(fun h=>by cases h),fun a _=>rfl⟩
   | some v =>
    have g:syn.Qv T L e.args b o i=(v,none):=by unfold syn.Qv;rw[hi];simp only;rw[Z0 D,hg]
    rw[g];refine⟨fun _=>?_,(fun a h=>by cases h)⟩;rw[A];rcases h.good _ v hg with h2|⟨e2,h2,h3⟩
    ·exfalso;obtain⟨j,y⟩:=List.mem_iff_getElem?.1 h2;have I:j<Ws.length:=(Zz.1 y).1;have J:e'.sz<e.sz:=by
      have H:i<e.args.len:=by
       by_cases q:i<e.args.len
       ·exact q
       rw[PL.at_none _ _ oq] at hi;cases hi
      obtain⟨M,f,O⟩:=PL.at_some e.args i H;rw[hi] at f;injection f with f
      subst f;have R:e.args.szFrom i≤e.args.sz:=KJ e.args i;unfold PE.sz at *;omega
     by_cases C:j=Ws.length-1
     ·rw[C,G] at y;injection y with y
      subst y;have:=m.one F;subst this;omega
     have:=h.dec j (Ws.length-1) _ x e' e oq y G m F;omega
    have:=h2.one m;subst this;exact h3
  have g:syn.Qv T L e.args b o i=(.int .i64 (sgE T e'.k e'.nm e'.n),none):=by unfold syn.Qv;rw[hi];simp only;rw[ZZ D]
  rw[g];refine⟨fun _=>?_,fun a h=>by cases h⟩;rw[A];unfold evE;rw[ZZ D]
end Go.Proofs.YtdgifkjaflfdeaaGreatDoor.syn
