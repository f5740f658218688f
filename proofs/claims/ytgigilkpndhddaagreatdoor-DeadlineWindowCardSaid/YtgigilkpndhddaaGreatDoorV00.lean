/- Parts of the proof. -/
import Derived.BigQuiet
import Derived.Handy
import Derived.Lib.Hide
import Derived.LoopIn
import Derived.LoopNIn
import Derived.OwnWalkIn
import Derived.RangeFuncBound
import Derived.RangeFuncNested
import Derived.Shelf.Abstract
import Derived.TacticsInMore
import Derived.Test.YtgigilkpndhddaaGreatDoorChecked
namespace Go.Proofs.YtgigilkpndhddaaGreatDoor
theorem oz {p : Prop} (h : p := by first | omega | (simp; done) | (simp; omega)) : p := h
theorem kz {p : Prop} (h : p := by kernel_rfl) : p := h
theorem Yq:type_of% @Nat.le_refl:=@Nat.le_refl
theorem Yr:type_of% @Nat.lt_of_lt_of_le:=@Nat.lt_of_lt_of_le
theorem Ys:type_of% @beq_eq_false_iff_ne:=@beq_eq_false_iff_ne
theorem Yt:type_of% @decide_eq_false:=@decide_eq_false
theorem Yu:type_of% @if_neg:=@if_neg
theorem Yv:type_of% @if_pos:=@if_pos
end Go.Proofs.YtgigilkpndhddaaGreatDoor
set_option linter.all false
set_option maxRecDepth 100000
set_option maxHeartbeats 16000000
namespace Go.Proofs.YtgigilkpndhddaaGreatDoor.plain
open Tryz
open Go.RowKit (wrap64)
theorem xz(n d:Int)(hd:1≤d):n.tdiv d=if n.tmod d<0 then n/d+1 else n/d:=by
 have j:=Int.mul_tdiv_add_tmod n d;have m:=Int.mul_ediv_add_emod n d;have x:=Int.emod_nonneg n (show d≠0 by omega);have v:=Int.emod_lt_of_pos n (show 0<d by omega);have q:=Int.tmod_lt_of_pos n (show 0<d by omega);have hb:-d<n.tmod d:=by
  have:=Int.lt_tmod_of_pos n (show 0<d by omega);omega
 split
 ·rename_i h
  have g:d*(n.tdiv d-(n/d+1))=n%d-n.tmod d-d:=by rw[Int.mul_sub,Int.mul_add];omega
  have:n.tdiv d-(n/d+1)=0:=by
   apply Classical.byContradiction;intro f;rcases Int.lt_or_gt_of_ne f with h1|h1
   ·have:d*(n.tdiv d-(n/d+1))≤d*(-1):=Int.mul_le_mul_of_nonneg_left oz oz;omega
   have:d*1≤d*(n.tdiv d-(n/d+1)):=Int.mul_le_mul_of_nonneg_left oz oz;omega
  omega
 rename_i h
 have g:d*(n.tdiv d-n/d)=n%d-n.tmod d:=by rw[Int.mul_sub];omega
 have:n.tdiv d-n/d=0:=by
  apply Classical.byContradiction;intro f;rcases Int.lt_or_gt_of_ne f with h1|h1
  ·have:d*(n.tdiv d-n/d)≤d*(-1):=Int.mul_le_mul_of_nonneg_left oz oz;omega
  have:d*1≤d*(n.tdiv d-n/d):=Int.mul_le_mul_of_nonneg_left oz oz;omega
 omega
theorem gM(n d:Int)(hd:1≤d):n.tmod d=if n.tmod d<0 then n%d-d else n%d:=by
 have g:=Int.mul_tdiv_add_tmod n d;have j:=Int.mul_ediv_add_emod n d;have f:=xz n d hd;by_cases h:n.tmod d<0
 ·rw[Yv h] at f ⊢;rw[f,Int.mul_add] at g;omega
 rw[Yu h] at f ⊢;rw[f] at g;omega
theorem yS(n d:Int)(hd:1≤d):(0≤n→0≤n/d∧n/d≤n)∧(n<0→n≤n/d∧n/d<0):=by
 constructor
 ·intro h;exact⟨Int.ediv_nonneg h oz,Int.ediv_le_self _ h⟩
 intro h;refine⟨?_,Int.ediv_neg_of_neg_of_pos h oz⟩;rw[Int.le_ediv_iff_mul_le oz];have:n*d≤n*1:=Int.mul_le_mul_of_nonpos_left oz oz;omega
theorem Zaa(n d:Int)(hd:1≤d)(g:-9223372036854775808≤n)(j:n≤9223372036854775807)(m:d≤9223372036854775807)(h:n.tmod d<0) :
  wrap64 (n.tdiv d-1)=n/d∧wrap64 (n.tmod d+d)=n%d:=by
 have a:=xz n d hd;have b:=gM n d hd;have c:=yS n d hd;have v:=Int.emod_nonneg n (show d≠0 by omega);have q:=Int.emod_lt_of_pos n (show 0<d by omega);rw[Yv h] at a b;rw[a,b];by_cases f:0≤n
 ·have:=c.1 f;constructor<;>(refine Eq.trans (IntWalk.wrap64_in _ oz) oz)
 have:=c.2 oz;constructor<;>(refine Eq.trans (IntWalk.wrap64_in _ oz) oz)
theorem yW(n d:Int)(hd:1≤d)(h:0≤n.tmod d):n.tdiv d=n/d∧n.tmod d=n%d:=by
 have a:=xz n d hd;have b:=gM n d hd;rw[Yu oz] at a b;exact⟨a,b⟩
theorem Zcb(a b:Int)(f:¬a=0)(hb:¬b=0):a*b<0↔¬(a<0↔b<0):=by
 rcases Int.lt_or_gt_of_ne f with h|h<;>rcases Int.lt_or_gt_of_ne hb with k|k
 ·have:=Int.mul_pos_of_neg_of_neg h k;omega
 ·have:=Int.mul_neg_of_neg_of_pos h k;omega
 ·have:=Int.mul_neg_of_pos_of_neg h k;omega
 have:=Int.mul_pos h k;omega
theorem Zca(a b:Int)(D:-9223372036854775808≤a)(E:a≤9223372036854775807)(F:-9223372036854775808≤b)(G:b≤9223372036854775807)
  (I:¬a=0)(hb:¬b=0)(h:a*b < -9223372036854775808∨9223372036854775807<a*b)
  (g:wrap64 ((wrap64 (a*b)).tdiv b)=a):¬(wrap64 (a*b)<0↔¬(a<0↔b<0)):=by
 have z:∃k:Int,wrap64 (a*b)=a*b+18446744073709551616*k∧-9223372036854775808≤wrap64 (a*b)∧wrap64 (a*b)≤9223372036854775807:=by
  refine⟨-((a*b+9223372036854775808)/18446744073709551616),?_⟩;unfold wrap64;omega
 obtain⟨k,J,v,x⟩:=z;generalize wrap64 (a*b)=p at *;have j:=Int.mul_tdiv_add_tmod p b;have L:(p.tmod b).natAbs<b.natAbs:=by
  have:=Int.natAbs_tmod p b;rw[this];exact Nat.mod_lt _ oz
 have C:(p.tdiv b).natAbs≤p.natAbs:=by rw[Int.natAbs_tdiv];exact Nat.div_le_self _ _
 by_cases f:p.tdiv b≤9223372036854775807
 ·rw[IntWalk.wrap64_in _ ⟨oz,f⟩] at g;rw[g] at j;have H:b*a=a*b:=Int.mul_comm _ _;omega
 have M:wrap64 (p.tdiv b)=-9223372036854775808:=by unfold wrap64;omega
 have A:p=-9223372036854775808:=oz;have m:a=-9223372036854775808:=oz;have q:b<0:=by
  apply Classical.byContradiction;intro y;have:p.tdiv b≤0:=by
   have:=Int.tdiv_nonneg (show 0≤-p by omega) (show 0≤b by omega);rw[Int.neg_tdiv] at this;omega
  omega
 omega
theorem Zeb{p q r:Prop}[Decidable p][Decidable q][Decidable r](h:p↔¬(q↔r)):(!(decide p == !(decide q == decide r)))=false:=by
 by_cases f:p<;>by_cases g:q<;>by_cases j:r<;>simp_all
theorem ZcI{p q r:Prop}[Decidable p][Decidable q][Decidable r](h:¬(p↔¬(q↔r))):(!(decide p == !(decide q == decide r)))=true:=by
 by_cases f:p<;>by_cases g:q<;>by_cases j:r<;>simp_all
def sz(a:Int):Int:=(a.natAbs:Int)
theorem getD_lt{α:Type}{l:List α}{k:Nat}(d:α)(h:k<l.length):l.getD k d=l[k]:=by
 rw[List.getD_eq_getElem?_getD,List.getElem?_eq_getElem h,Option.getD_some]
theorem ZbF{α:Type}{l:List α}{k:Nat}(d:α)(h:k<l.length):l.getD k d∈l:=by
 rw[getD_lt d h];exact List.getElem_mem h
end Go.Proofs.YtgigilkpndhddaaGreatDoor.plain
namespace Go.Proofs.YtgigilkpndhddaaGreatDoor.arith
open Tryz
open Go.RowKit
theorem qZ{a b c d:Int}(h:a=b)(f:c=d):Ending.returned (.tuple #[.int .i64 a,.int .i64 c])=.returned (.tuple #[.int .i64 b,.int .i64 d]):=by rw[h,f]
theorem Zab(n d:Int)(w:World)(hd:1≤d)(g:-9223372036854775808≤n)(j:n≤9223372036854775807)(q:d≤9223372036854775807) :
  Calls prog 172 #[.int .i64 n,.int .i64 d] w fun e w'=>e=.returned (.tuple #[.int .i64 (n/d),.int .i64 (n%d)])∧∃m,w'=w.drewN m:=by
 go_enter func172,ntmps172;go_wp2;go_quiet (fail);go_wp2
 all_goals go_ret2
 ·have f:n.tmod d<0:=by assumption
  have H:=plain.Zaa n d hd g j q f;exact⟨qZ H.1 H.2,_,rfl⟩
 have f:0≤n.tmod d:=by assumption
 have H:=plain.yW n d hd f;exact⟨qZ H.1 H.2,_,rfl⟩
theorem ZdK(a b:Int)(w:World)(g:-9223372036854775808≤a)(j:a≤9223372036854775807)(x:-9223372036854775808≤b)(y:b≤9223372036854775807)
  (f:¬a=0)(hb:¬b=0)(z:-9223372036854775808≤a*b)(A:a*b≤9223372036854775807) :
  Calls prog 119 #[.int .i64 a,.int .i64 b] w fun e w'=>e=.returned (.tuple #[.int .i64 (a*b),.bool true])∧∃m,w'=w.drewN m:=by
 have q:(a == 0)=false:=by simpa using f
 have v:(b == 0)=false:=by simpa using hb
 have C:=plain.Zeb (plain.Zcb a b f hb);have D:wrap64 a=a:=IntWalk.wrap64_in a ⟨g,j⟩;go_enter func119,ntmps119;go_wp2;go_ret2;exact⟨rfl,0,rfl⟩
theorem Zfe(a b:Int)(w:World)(g:-9223372036854775808≤a)(j:a≤9223372036854775807)(q:-9223372036854775808≤b)(v:b≤9223372036854775807)
  (f:¬a=0)(hb:¬b=0)(h:a*b < -9223372036854775808∨9223372036854775807<a*b) :
  Calls prog 119 #[.int .i64 a,.int .i64 b] w fun e w'=>e=.returned (.tuple #[.int .i64 0,.bool false])∧∃m,w'=w.drewN m:=by
 have x:(a == 0)=false:=by simpa using f
 have y:(b == 0)=false:=by simpa using hb
 by_cases z:wrap64 ((wrap64 (a*b)).tdiv b)=a
 ·have A:=plain.ZcI (plain.Zca a b g j q v f hb h z);go_enter func119,ntmps119;go_wp2;go_ret2;exact⟨rfl,0,rfl⟩
 go_enter func119,ntmps119;go_wp2;go_ret2;exact⟨rfl,0,rfl⟩
theorem below_drewN{B:Nat}{a w:World}(h:Below B a w)(n:Nat):Below B a (w.drewN n):=⟨h.os,h.tape,h.output,h.size,h.block⟩
theorem YC{W w1:World}(hb:Below W.heap.size W w1):(∀b o,b<W.heap.size→w1.cell? ⟨b,o,none⟩=W.cell? ⟨b,o,none⟩)∧(∀b o,b<W.heap.size→w1.frozen? ⟨b,o,none⟩=W.frozen? ⟨b,o,none⟩) :=
 ⟨fun b o h=>hb.cell (p:=⟨b,o,none⟩) h,fun b o h=>hb.frozen (p:=⟨b,o,none⟩) h⟩
theorem U6{a b:Int}(f:1≤a)(hb:1≤b):1≤a*b:=by
 have:=Int.mul_le_mul f hb oz oz;omega
end Go.Proofs.YtgigilkpndhddaaGreatDoor.arith
namespace Go.Proofs.YtgigilkpndhddaaGreatDoor.clock
open Tryz
open Go.RowKit
def uS(n a b:Int):Bool:=decide (a≤n∧n≤b)
theorem GL{n a b:Int}(f:a≤n)(g:n≤b):uS n a b=true:=by unfold uS;simp;omega
theorem zh{n a b:Int}(h:n<a∨b<n):uS n a b=false:=by unfold uS;simp;omega
theorem Xx{a b:Bool}(h:a=b):Ending.returned (.bool a)=.returned (.bool b):=by rw[h]
theorem Qr(n a b:Int)(w:World) :
  Calls prog 105 #[.int .i64 n,.int .i64 a,.int .i64 b] w fun e w'=>e=.returned (.bool (uS n a b))∧w=w':=by
 by_cases f:a≤n
 ·by_cases g:n≤b
  ·have E:=Lib.hid (GL f g);go_enter func105,ntmps105;go_wp2;go_ret;exact⟨Xx (by rw[E.out];try (simp;omega)),rfl⟩
  have E:=Lib.hid (zh (n:=n) (a:=a) (b:=b) oz);have m:b<n:=oz;clear g;go_enter func105,ntmps105;go_wp2;go_ret;exact⟨Xx (by rw[E.out];try (simp;omega)),rfl⟩
 have E:=Lib.hid (zh (n:=n) (a:=a) (b:=b) oz);have j:n<a:=oz;clear f;go_enter func105,ntmps105;go_wp2;go_ret;exact⟨Xx (by rw[E.out];try (simp;omega)),rfl⟩
theorem Vq(n a b:Int)(w:World)(f:a≤n)(g:n≤b) :
  Calls prog 105 #[.int .i64 n,.int .i64 a,.int .i64 b] w fun e w'=>e=.returned (.bool true)∧w=w':=by
 have H:=Qr n a b w;rwa [GL f g] at H
theorem K5(n a b:Int)(w:World)(h:n<a∨b<n) :
  Calls prog 105 #[.int .i64 n,.int .i64 a,.int .i64 b] w fun e w'=>e=.returned (.bool false)∧w=w':=by
 have H:=Qr n a b w;rwa [zh h] at H
def YF(p f:Int):Bool:=decide (1≤p∧p≤2000∧0≤f∧f≤2000)
theorem YQ{p f:Int}(h:1≤p∧p≤2000∧0≤f∧f≤2000):YF p f=true:=by unfold YF;simp;omega
theorem Q5{p f:Int}(h:¬(1≤p∧p≤2000∧0≤f∧f≤2000)):YF p f=false:=by unfold YF;simp;omega
theorem Xq{p f:Int}:YF p f=true↔(1≤p∧p≤2000∧0≤f∧f≤2000):=by unfold YF;simp
theorem Xv(p f:Int)(w:World)(h:1≤p∧p≤2000∧0≤f∧f≤2000) :
  Calls prog 58 #[.agg #[.int .i64 p,.int .i64 f]] w fun e w'=>e=.returned (.bool true)∧Below w.heap.size w w':=by
 go_enter func58,ntmps58;go_wp2_with (first|(go_at_call 105;refine(Vq _ _ _ _ oz oz).mono ?_;rintro e w' ⟨rfl,rfl⟩));go_ret;exact⟨rfl,(Below.refl _ _).alloc (Yq _) _⟩
theorem Q4(p f:Int)(w:World)(h:¬(1≤p∧p≤2000∧0≤f∧f≤2000)) :
  Calls prog 58 #[.agg #[.int .i64 p,.int .i64 f]] w fun e w'=>e=.returned (.bool false)∧Below w.heap.size w w':=by
 by_cases q:1≤p∧p≤2000
 ·have m:f<0∨2000<f:=oz;clear h;have g:=Lib.hid (fun w=>K5 f 0 2000 w m);go_enter func58,ntmps58;go_wp2_with (first|(go_at_call 105;with_reducible refine(g.out _).mono ?_;rintro e w' ⟨rfl,rfl⟩)|(go_at_call 105;refine(Vq _ _ _ _ oz oz).mono ?_;rintro e w' ⟨rfl,rfl⟩));go_ret;exact⟨rfl,(Below.refl _ _).alloc (Yq _) _⟩
 have j:p<1∨2000<p:=oz;clear h q;have g:=Lib.hid (fun w=>K5 p 1 2000 w j);go_enter func58,ntmps58;go_wp2_with (go_at_call 105;refine(g.out _).mono ?_;rintro e w' ⟨rfl,rfl⟩);go_ret;exact⟨rfl,(Below.refl _ _).alloc (Yq _) _⟩
theorem Qh(p f:Int)(w:World) :
  Calls prog 58 #[.agg #[.int .i64 p,.int .i64 f]] w fun e w'=>e=.returned (.bool (YF p f))∧Below w.heap.size w w':=by
 by_cases h:1≤p∧p≤2000∧0≤f∧f≤2000
 ·rw[YQ h];exact Xv p f w h
 rw[Q5 h];exact Q4 p f w h
theorem Zbm(p f n:Int)(w:World)(h:1≤p∧p≤2000∧0≤f∧f≤2000)(j:0≤n)(m:n≤1099511627776) :
  Calls prog 109 #[.agg #[.int .i64 p,.int .i64 f],.int .i64 n] w fun e w'=>e=.returned (.int .i64 (f+n*p))∧Below w.heap.size w w':=by
 have x:0≤n*p:=Int.mul_nonneg j oz;have y:n*p≤1099511627776*2000:=Int.mul_le_mul m oz oz oz;have z:wrap64 (n*p)=n*p:=IntWalk.wrap64_in _ oz;have g:=Lib.hid (fun w=>Xv p f w h);go_enter func109,ntmps109;go_wp2_with (first|(go_at_call 58;refine(g.out _).mono ?_;rintro e A ⟨rfl,hb⟩;obtain⟨q,v⟩:=arith.YC hb)|(go_at_call 105;refine(Vq _ _ _ _ oz oz).mono ?_;rintro e w' ⟨rfl,rfl⟩));go_ret;exact⟨rfl,((Below.refl _ _).alloc (Yq _) _).trans (hb.mono (by simp))⟩
end Go.Proofs.YtgigilkpndhddaaGreatDoor.clock
namespace Go.Proofs.YtgigilkpndhddaaGreatDoor.arith
open Tryz
open Go.RowKit
def Ql(a b:Int):Int:=((Nat.gcd a.toNat b.toNat:Nat):Int)
def GN(a b:Int)(x y:Nat):Prop:=Nat.gcd x y=Nat.gcd a.toNat b.toNat∧x≤9223372036854775807∧y≤9223372036854775807
theorem qk{a b:Int}{x y:Nat}(h:GN a b x y)(hy:y≠0):GN a b y (x%y):=by
 obtain⟨f,j,g⟩:=h;refine⟨?_,g,?_⟩
 ·rw[←f,Nat.gcd_comm x y,Nat.gcd_rec y x,Nat.gcd_comm]
 have:=Nat.mod_le x y;omega
theorem zU{a:Int}(h:0≤a):Value.int .i64 a=.int .i64 (a.toNat:Int):=by rw[Int.toNat_of_nonneg h]
theorem qx{a:Int}(h:a<0):Value.int .i64 0=.int .i64 (a.toNat:Int):=by rw[show((a.toNat:Nat):Int)=0 by omega]
theorem ZdB{a b:Int}{u:Nat}(h:GN a b u 0):Ending.returned (.int .i64 (u:Int))=.returned (.int .i64 (Ql a b)):=by
 have:=h.1;unfold Ql;rw[←this,Nat.gcd_zero_right]
theorem kT(a b:Int)(w:World)(A:-9223372036854775808≤a)(C:a≤9223372036854775807)(D:-9223372036854775808≤b)(E:b≤9223372036854775807) :
  Calls prog 120 #[.int .i64 a,.int .i64 b] w fun e w'=>e=.returned (.int .i64 (Ql a b))∧∃m,w'=w.drewN m:=by
 go_enter func120,ntmps120;go_wp2
 all_goals
  go_loopw [0,1] (fun x y wr=>∃u v:Nat,GN a b u v∧x=.int .i64 u∧y=.int .i64 v∧∃m,wr=w.drewN m) (fun _ y _=>(intOf y).toNat)
  case atStart=>exact⟨a.toNat,b.toNat,⟨rfl,oz,oz⟩,by first|exact zU (by assumption)|exact qx (by assumption),by first|exact zU (by assumption)|exact qx (by assumption),0,rfl⟩
  obtain⟨u,v,f,rfl,rfl,m,rfl⟩:=hrel;have g:Hid (GN a b u v):=f;have F:u≤9223372036854775807:=f.2.1;have G:v≤9223372036854775807:=f.2.2;clear f;by_cases j:v=0
  ·subst j;go_wp2;go_ret;exact⟨ZdB g.out,m,rfl⟩
  have hb:((v:Int) == 0)=false:=by simp;omega
  have z:((v:Int) != 0)=true:=by simp;omega
  have q:(1:Int)≤v:=oz;go_wp2;go_quiet (fail);go_wp2;go_roundw
  case rel=>exact⟨v,u%v,qk g.out j,rfl,by go_num,_,World.drewN_drewN ..⟩
  have:=Nat.mod_lt u (show 0<v by omega);simp[intOf];omega
def YZ:Int→List Int→Option Int
 | c,[]=>some c
 | c,x::r=>if x<1 then none else if 9223372036854775807<c/Ql c x*x then none else YZ (c/Ql c x*x) r
def Ze8:Option Int→Value
 | none=>.tuple #[.int .i64 0,.bool false]
 | some c=>.tuple #[.int .i64 c,.bool true]
def GQ(w:World)(v:Value)(l:List Int):Prop :=
 (∃a cap,v=.slice a 0 cap∧l=[])∨∃b off cap,v=.slice (some ⟨b,off,none⟩) l.length cap∧∀k,k<l.length→w.cell? ⟨b,off+k,none⟩=some (.int .i64 (l.getD k 0))
theorem zP{c x:Int}(f:1≤c):1≤Ql c x:=by
 unfold Ql;have:=Nat.gcd_pos_of_pos_left x.toNat (show 0<c.toNat by omega);omega
theorem qj{c x:Int}(f:1≤c):Ql c x≤c:=by
 unfold Ql;have:=Nat.gcd_le_left x.toNat (show 0<c.toNat by omega);omega
theorem xj{c x:Int}(f:1≤c):1≤c/Ql c x:=by
 have g:=zP (x:=x) f;have j:=qj (x:=x) f;rw[Int.le_ediv_iff_mul_le oz];omega
theorem KU{c x:Int}(hc:1≤c):c/Ql c x≤c:=Int.ediv_le_self _ oz
theorem Kw{l:List Int}{k:Nat}(h:k<l.length):l.drop k=l.getD k 0::l.drop (k+1):=by
 rw[List.drop_eq_getElem_cons h,plain.getD_lt 0 h]
theorem ZdI{l:List Int}{k:Nat}{c:Int}(h:k<l.length)(f:l.getD k 0<1)(H:YZ c (l.drop k)=YZ 1 l):YZ 1 l=none:=by
 rw[←H,Kw h,YZ,Yv f]
theorem Zb1{l:List Int}{k:Nat}{c:Int}(h:k<l.length)(g:1≤l.getD k 0)(f:9223372036854775807<c/Ql c (l.getD k 0)*l.getD k 0)(H:YZ c (l.drop k)=YZ 1 l):YZ 1 l=none:=by
 rw[←H,Kw h,YZ,Yu oz,Yv f]
theorem Zb0{l:List Int}{k:Nat}{c:Int}(h:k<l.length)(g:1≤l.getD k 0)(f:c/Ql c (l.getD k 0)*l.getD k 0≤9223372036854775807)(H:YZ c (l.drop k)=YZ 1 l) :
  YZ (c/Ql c (l.getD k 0)*l.getD k 0) (l.drop (k+1))=YZ 1 l:=by
 rw[←H,Kw h,YZ,Yu oz,Yu oz]
theorem ZbZ{l:List Int}{k:Nat}{c:Int}(h:l.length≤k)(H:YZ c (l.drop k)=YZ 1 l):YZ 1 l=some c:=by
 rw[←H,List.drop_eq_nil_of_le h,YZ]
theorem ZdH(l:List Int)(v:Value)(w:World)(V:GQ w v l)(T:l.length≤9223372036854775807)(F:∀x∈l,x≤9223372036854775807) :
  Calls prog 78 #[v] w fun e w'=>e=.returned (Ze8 (YZ 1 l))∧∃m,w'=w.drewN m:=by
 rcases V with ⟨a,cap,rfl,rfl⟩|⟨b,off,cap,rfl,hc⟩
 ·clear F T;go_enter func78,ntmps78;go_wp2;go_rounds 1;go_ret2;exact⟨rfl,0,rfl⟩
 have O:Hid (∀k,k<l.length→w.cell? ⟨b,off+k,none⟩=some (.int .i64 (l.getD k 0))):=hc;have R:Hid (∀x∈l,x≤9223372036854775807):=F;clear hc F;go_enter func78,ntmps78;go_wp2;go_loopw [4,11] (fun c i wr=>∃(n:Int)(k:Nat),k≤l.length∧1≤n∧n≤9223372036854775807∧Hid (YZ n (l.drop k)=YZ 1 l)∧c=.int .i64 n∧i=.int .i64 k∧∃m,wr=w.drewN m) (fun _ i _=>l.length-(intOf i).toNat)
 case atStart=>exact⟨1,0,oz,oz,oz,rfl,rfl,rfl,0,rfl⟩
 obtain⟨n,k,hk,y,U,A,rfl,rfl,m,rfl⟩:=hrel;by_cases f:k<l.length
 ·have C:=O.out k f;have Y:l.getD k 0≤9223372036854775807:=R.out _ (plain.ZbF 0 f);have I:=@ZdI l k n f;have J:=@Zb1 l k n f;have L:=@Zb0 l k n f;have g:=Lib.hid I;have j:=Lib.hid J;have q:=Lib.hid L;clear I J L;generalize l.getD k 0=x at *;by_cases X:x<1
  ·have E:=Lib.hid (g.out X A.out);clear g j q;go_wp2;go_ret2;exact⟨by rw[E.out];rfl,m,rfl⟩
  have z:1≤x:=oz;have g1:=zP (x:=x) y;have g2:=qj (x:=x) y;have q1:=xj (x:=x) y;have q2:=KU (x:=x) y;have Z:=U6 q1 z;by_cases M:9223372036854775807<n/Ql n x*x
  ·have E:=Lib.hid (j.out z M A.out);clear g j q;go_wp2_with (first|(go_at_call 120;refine(kT _ _ _ oz oz oz oz).mono ?_;rintro e w' ⟨rfl,H,rfl⟩)|(go_at_call 119;refine(Zfe _ _ _ oz oz oz oz oz oz oz).mono ?_;rintro e w' ⟨rfl,H,rfl⟩));go_ret2;exact⟨by rw[E.out];rfl,_,rfl⟩
  have E:=Lib.hid (q.out z oz A.out);have G:n/Ql n x*x≤9223372036854775807:=oz;clear g j q M;go_wp2_with (first|(go_at_call 120;refine(kT _ _ _ oz oz oz oz).mono ?_;rintro e w' ⟨rfl,H,rfl⟩)|(go_at_call 119;refine(ZdK _ _ _ oz oz oz oz oz oz oz oz).mono ?_;rintro e w' ⟨rfl,H,rfl⟩));go_roundw
  case rel=>exact⟨_,k+1,oz,Z,G,E.out,rfl,by go_num,_,rfl⟩
  simp[intOf];omega
 have E:=Lib.hid (ZbZ oz A.out);have D:k=l.length:=oz;subst D;go_wp2;go_ret2;exact⟨by rw[E.out];rfl,m,rfl⟩
theorem Em(x:Int):Ql 1 x=1:=by unfold Ql;rw[show(1:Int).toNat=1 from rfl,Nat.gcd_one_left];rfl
theorem GQ.below{w g:World}{v:Value}{l:List Int}(h:GQ w v l)(hb:Below w.heap.size w g):GQ g v l:=by
 rcases h with ⟨a,cap,h1,h2⟩|⟨b,off,cap,h1,h2⟩
 ·exact .inl ⟨a,cap,h1,h2⟩
 refine .inr ⟨b,off,cap,h1,fun k hk=>?_⟩;have f:=h2 k hk;rw[hb.cell (p:=⟨b,off+k,none⟩) (block_lt_of_cell f),f]
end Go.Proofs.YtgigilkpndhddaaGreatDoor.arith
namespace Go.Proofs.YtgigilkpndhddaaGreatDoor.clock
open Tryz
open Go.RowKit
def JS(h p:Int):Int:=h/arith.Ql h p*p
def YL:Int→List (Int × Int)→Option Int
 | h,[]=>some h
 | h,c::l=>if 2000<JS h c.1 then none else YL (JS h c.1) l
theorem kY{h p:Int}(f:1≤h)(m:h≤2000)(g:1≤p)(p2:p≤2000):1≤JS h p∧JS h p≤4000000:=by
 have j:=arith.xj (x:=p) f;have q:=arith.KU (x:=p) f;refine⟨arith.U6 j g,?_⟩;have:h/arith.Ql h p*p≤2000*2000:=Int.mul_le_mul oz p2 oz oz;unfold JS;omega
theorem qE{h p:Int}(f:1≤h)(g:h≤2000)(j:1≤p)(p2:p≤2000):arith.YZ 1 [h,p]=some (JS h p):=by
 have b:=kY f g j p2;rw[arith.YZ,Yu oz,arith.Em,show(1:Int)/1*h=h by omega,Yu oz,arith.YZ,Yu oz];unfold JS at b ⊢;rw[Yu oz,arith.YZ]
theorem ZbP(w:World)(a b:Int):arith.GQ (w.alloc (Obj.cells #[.int .i64 a,.int .i64 b] 2)) (.slice (some ⟨w.heap.size,0,none⟩) 2 2) [a,b]:=by
 refine .inr ⟨w.heap.size,0,2,rfl,?_⟩;intro k f
 match k,f with
 | 0,_=>simp[go_sem]
 | 1,_=>simp[go_sem]
theorem ZbY(h p:Int)(w:World)(B:Nat)(j:B=w.heap.size)(f:1≤h)(g:h≤2000)(q:1≤p)(p2:p≤2000) :
  Calls prog 78 #[.slice (some ⟨B,0,none⟩) 2 2] (w.alloc (Obj.cells #[.int .i64 h,.int .i64 p] 2)) fun e w' =>
   e=.returned (.tuple #[.int .i64 (JS h p),.bool true])∧∃m,w'=(w.alloc (Obj.cells #[.int .i64 h,.int .i64 p] 2)).drewN m:=by
 subst j;have:=arith.ZdH [h,p] _ _ (ZbP w h p) (by simp) (by simp;omega);rw[qE f g q p2] at this;exact this
def EV(c:Int × Int):Prop:=1≤c.1∧c.1≤2000∧0≤c.2∧c.2≤2000
def U2:Option Int→Value
 | none=>.tuple #[.int .i64 0,.int .i64 8]
 | some h=>.tuple #[.int .i64 h,.int .i64 0]
theorem Eo{l:List (Int × Int)}{k:Nat}(h:k<l.length):l.drop k=l.getD k (0,0)::l.drop (k+1):=by
 rw[List.drop_eq_getElem_cons h,plain.getD_lt _ h]
theorem ua{l:List (Int × Int)}{k:Nat}{h:Int}{X:Option Int}(f:k<l.length)(g:2000<JS h (l.getD k (0,0)).1)(H:YL h (l.drop k)=X):X=none:=by
 rw[Eo f,YL,Yv g] at H;exact H.symm
theorem vZ{l:List (Int × Int)}{k:Nat}{h:Int}{X:Option Int}(f:k<l.length)(g:¬2000<JS h (l.getD k (0,0)).1)(H:YL h (l.drop k)=X):YL (JS h (l.getD k (0,0)).1) (l.drop (k+1))=X:=by
 rw[Eo f,YL,Yu g] at H;exact H
theorem vX{l:List (Int × Int)}{k:Nat}{h:Int}{X:Option Int}(f:l.length≤k)(H:YL h (l.drop k)=X):X=some h:=by
 rw[List.drop_eq_nil_of_le f,YL] at H;exact H.symm
theorem vY(l:List (Int × Int))(b off cap:Nat)(w:World)(hl:l.length≤9223372036854775807)(G:b<w.heap.size)
  (g:∀k,k<l.length→w.cell? ⟨b,off+k*2,none⟩=some (.int .i64 (l.getD k (0,0)).1)∧w.cell? ⟨b,off+k*2+1,none⟩=some (.int .i64 (l.getD k (0,0)).2))
  (j:∀k,k<l.length→EV (l.getD k (0,0))) :
  Calls prog 32 #[.slice (some ⟨b,off,none⟩) l.length cap] w fun e w'=>e=.returned (U2 (YL 1 l))∧Below w.heap.size w w':=by
 have R:=Lib.hid g;have T:=Lib.hid j;clear g j;go_enter func32,ntmps32;go_wp2;go_loopw [13] (fun i wr=>∃k:Nat,k≤l.length∧i=.int .i64 k∧Hid (Below w.heap.size w wr)) (fun i _=>l.length-(intOf i).toNat)
 case atStart=>exact⟨0,oz,rfl,Below.refl _ _⟩
 obtain⟨k,hk,rfl,C⟩:=hrel;by_cases f:k<l.length
 ·have L:=R.out k f;obtain⟨D,F⟩:=L;rw[←C.out.cell (p:=⟨b,_,none⟩) G] at D F;have q:=T.out k f;unfold EV at q;generalize l.getD k (0,0)=c at *;obtain⟨A,X⟩:=c;simp only at D F q;have H:=Lib.hid (fun w=>Xv A X w q);clear q;go_wp2_with (go_at_call 58;(with_reducible refine(H.out _).mono ?_);rintro e w1 ⟨rfl,hb1⟩;have HB1:=Lib.hid hb1;clear hb1);go_roundw
  case rel=>exact⟨k+1,oz,by go_num,(C.out.alloc C.out.size _).trans (HB1.out.mono (by simp;have:=C.out.size;omega))⟩
  simp[intOf];omega
 have z:k=l.length:=oz;subst z;go_wp2;obtain⟨wo,rfl⟩:∃wo:World,wo=wr:=⟨_,rfl⟩;go_loopw [6,23] (fun h i wr=>∃(k:Nat)(n:Int),k≤l.length∧1≤n∧n≤2000∧h=.int .i64 n∧i=.int .i64 k∧Hid (YL n (l.drop k)=YL 1 l)∧Hid (Below w.heap.size w wr)) (fun _ i _=>l.length-(intOf i).toNat)
 case atStart=>exact⟨0,1,oz,oz,oz,rfl,rfl,rfl,C⟩
 obtain⟨k,n,hk,Y,Z,rfl,rfl,I,y⟩:=hrel;by_cases f:k<l.length
 ·have L:=R.out k f;obtain⟨D,F⟩:=L;rw[←y.out.cell (p:=⟨b,_,none⟩) G] at D F;have q:=T.out k f;unfold EV at q;have U:=@ua l k n (YL 1 l) f;have V:=@vZ l k n (YL 1 l) f;have v:=Lib.hid U;have x:=Lib.hid V;clear U V;generalize l.getD k (0,0)=c at *;obtain⟨A,X⟩:=c;simp only at D F q v x;have p1:=q.1;have p2:=q.2.1;clear q;have J:=kY Y Z p1 p2;have b1:=J.1;have b2:=J.2;clear J;have H:=Lib.hid (fun w B hB=>ZbY n A w B hB Y Z p1 p2);by_cases M:2000<JS n A
  ·have E:=Lib.hid (v.out M I.out);clear v x;go_wp2_with (go_at_call 78;(with_reducible refine(H.out _ _ (by simp)).mono ?_);rintro e w1 ⟨rfl,m,rfl⟩);go_ret2;exact⟨by rw[E.out];rfl,arith.below_drewN ((y.out.alloc y.out.size _).alloc (by simp;have:=y.out.size;omega) _) _⟩
  have E:=Lib.hid (x.out M I.out);clear v x;have O:JS n A≤2000:=oz;clear M;go_wp2_with (go_at_call 78;(with_reducible refine(H.out _ _ (by simp)).mono ?_);rintro e w1 ⟨rfl,m,rfl⟩);go_roundw
  case rel=>exact⟨k+1,JS n A,oz,b1,O,rfl,by go_num,E,arith.below_drewN ((y.out.alloc y.out.size _).alloc (by simp;have:=y.out.size;omega) _) _⟩
  simp[intOf];omega
 have E:=Lib.hid (vX oz I.out);have z:k=l.length:=oz;subst z;go_wp2;go_ret2;exact⟨by rw[E.out];rfl,y.out⟩
def Q9(k n d:Int):Bool:=decide ((k=3∨k=4→1≤n∧n≤100)∧(k=5→1≤d∧d≤100∧0≤n∧n≤100))
theorem yU{k n d:Int}(h:(k=3∨k=4→1≤n∧n≤100)∧(k=5→1≤d∧d≤100∧0≤n∧n≤100)):Q9 k n d=true:=by unfold Q9;exact decide_eq_true h
theorem vQ{k n d:Int}(h:¬((k=3∨k=4→1≤n∧n≤100)∧(k=5→1≤d∧d≤100∧0≤n∧n≤100))):Q9 k n d=false:=by
 unfold Q9;exact Yt h
theorem Vg{w:World}(o:Obj):Below w.heap.size w (w.alloc o):=(Below.refl _ _).alloc (Yq _) _
theorem Zdz(k n d:Int)(w:World)(f:k=3∨k=4) :
  Calls prog 117 #[.agg #[.int .i64 k,.int .i64 n,.int .i64 d]] w fun e w'=>e=.returned (.bool (uS n 1 100))∧Below w.heap.size w w':=by
 rcases f with rfl|rfl
 all_goals
  go_enter func117,ntmps117;go_wp2_with (go_at_call 105;refine(Qr _ _ _ _).mono ?_;rintro e w' ⟨rfl,rfl⟩);go_ret;exact⟨rfl,Vg _⟩
theorem Ze3(n d:Int)(w:World)(h:1≤d∧d≤100) :
  Calls prog 117 #[.agg #[.int .i64 5,.int .i64 n,.int .i64 d]] w fun e w'=>e=.returned (.bool (uS n 0 100))∧Below w.heap.size w w':=by
 have f:=Lib.hid (fun w=>Vq d 1 100 w h.1 h.2);clear h;go_enter func117,ntmps117;go_wp2_with (first|(go_at_call 105;with_reducible refine(f.out _).mono ?_;rintro e w' ⟨rfl,rfl⟩)|(go_at_call 105;refine(Qr _ _ _ _).mono ?_;rintro e w' ⟨rfl,rfl⟩));go_ret;exact⟨rfl,Vg _⟩
theorem Zbz(n d:Int)(w:World)(h:d<1∨100<d) :
  Calls prog 117 #[.agg #[.int .i64 5,.int .i64 n,.int .i64 d]] w fun e w'=>e=.returned (.bool false)∧Below w.heap.size w w':=by
 have f:=Lib.hid (fun w=>K5 d 1 100 w h);clear h;go_enter func117,ntmps117;go_wp2_with (first|(go_at_call 105;with_reducible refine(f.out _).mono ?_;rintro e w' ⟨rfl,rfl⟩));go_ret;exact⟨rfl,Vg _⟩
theorem ZbA(k n d:Int)(w:World)(f:k=6∨k=7∨k=8) :
  Calls prog 117 #[.agg #[.int .i64 k,.int .i64 n,.int .i64 d]] w fun e w'=>e=.returned (.bool true)∧Below w.heap.size w w':=by
 rcases f with rfl|rfl|rfl
 all_goals
  go_enter func117,ntmps117;go_wp2;go_ret;exact⟨rfl,Vg _⟩
theorem JA(k n d:Int)(w:World)(m:3≤k∧k≤8) :
  Calls prog 117 #[.agg #[.int .i64 k,.int .i64 n,.int .i64 d]] w fun e w'=>e=.returned (.bool (Q9 k n d))∧Below w.heap.size w w':=by
 by_cases g:k=3∨k=4
 ·have H:=Zdz k n d w g;by_cases f:1≤n∧n≤100
  ·rw[GL f.1 f.2] at H;rw[yU oz];exact H
  rw[zh oz] at H;rw[vQ oz];exact H
 by_cases j:k=5
 ·subst j;by_cases hd:1≤d∧d≤100
  ·have H:=Ze3 n d w hd;by_cases f:0≤n∧n≤100
   ·rw[GL f.1 f.2] at H;rw[yU oz];exact H
   rw[zh oz] at H;rw[vQ oz];exact H
  rw[vQ oz];exact Zbz n d w oz
 rw[yU oz];exact ZbA k n d w oz
theorem uk{p n:Int}(f:0≤p)(m:p≤2000)(g:-1≤n)(j:n≤100):-2000≤p*n∧p*n≤200000:=by
 have a:p*n≤p*100:=Int.mul_le_mul_of_nonneg_left j f;have b:p*(-1)≤p*n:=Int.mul_le_mul_of_nonneg_left g f;omega
theorem Zct{x d:Int}(f:-2000≤x)(g:x≤200000)(hd:1≤d):-2000≤x/d∧x/d≤200000:=by
 have:=plain.yS x d hd;by_cases h:0≤x
 ·have:=this.1 h;omega
 have:=this.2 oz;omega
theorem EQ(p n d:Int)(w:World)(g:0≤p)(j:p≤2000)(q:-1≤n)(v:n≤100)(x:1≤d)(y:d≤9223372036854775807) :
  Calls prog 155 #[.int .i64 p,.int .i64 n,.int .i64 d] w fun e w'=>e=.returned (.tuple #[.int .i64 (p*n/d),.bool (p*n%d == 0)])∧∃m,w'=w.drewN m:=by
 have z:=uk g j q v;have C:wrap64 (p*n)=p*n:=IntWalk.wrap64_in _ oz;have f:=Lib.hid (fun w=>arith.Zab (p*n) d w x oz oz y);go_enter func155,ntmps155;go_wp2_with (go_at_call 172;refine(f.out _).mono ?_;rintro e w' ⟨rfl,A,rfl⟩);go_ret2;exact⟨rfl,_,rfl⟩
def shB(p f n d:Int):Bool:=decide (p*n%d=0∧0≤f+p*n/d)
theorem KW(p f n d:Int)(w:World)(y:0≤p)(A:p≤2000)(f1:0≤f)(I:f≤2000)(C:-1≤n)(D:n≤100)(F:1≤d)(J:d≤100) :
  Calls prog 156 #[.agg #[.int .i64 p,.int .i64 f],.int .i64 n,.int .i64 d] w fun e w' =>
   e=.returned (.tuple #[.agg #[.int .i64 p,.int .i64 (f+p*n/d)],.bool (shB p f n d)])∧Below w.heap.size w w':=by
 have m:=uk y A C D;have x:=Zct m.1 m.2 F;have L:=x.1;have M:=x.2;have j:=Lib.hid (fun w=>EQ p n d w y A C D F oz);clear m x;by_cases g:p*n%d=0
 ·have z:(p*n%d == 0)=true:=by simpa using g
  by_cases q:0≤f+p*n/d
  ·have E:Hid (shB p f n d=true):=by unfold shB;exact decide_eq_true ⟨g,q⟩
   clear g;go_enter func156,ntmps156;go_wp2_with (go_at_call 155;refine(j.out _).mono ?_;rintro e w' ⟨rfl,G,rfl⟩);exact bodyPost_ret (v:=.tuple #[.agg #[.int .i64 p,.int .i64 (f+p*n/d)],.bool true]) (by simp[results,results156,go_sem]<;>omega) rfl ⟨by rw[E.out],(by repeat (first|exact Below.refl _ _|(refine Below.setCell ?_ (by first|(simp;done)|(simp;omega)) _)|(refine Below.alloc ?_ (by first|(simp;done)|(simp;omega)) _)|(refine arith.below_drewN ?_ _)))⟩
  have E:Hid (shB p f n d=false):=by unfold shB;exact Yt (fun h=>q h.2)
  clear g;have H:f+p*n/d<0:=oz;clear q;go_enter func156,ntmps156;go_wp2_with (go_at_call 155;refine(j.out _).mono ?_;rintro e w' ⟨rfl,G,rfl⟩);exact bodyPost_ret (v:=.tuple #[.agg #[.int .i64 p,.int .i64 (f+p*n/d)],.bool false]) (by simp[results,results156,go_sem]<;>omega) rfl ⟨by rw[E.out],(by repeat (first|exact Below.refl _ _|(refine Below.setCell ?_ (by first|(simp;done)|(simp;omega)) _)|(refine Below.alloc ?_ (by first|(simp;done)|(simp;omega)) _)|(refine arith.below_drewN ?_ _)))⟩
 have z:(p*n%d == 0)=false:=by simpa using g
 have E:Hid (shB p f n d=false):=by unfold shB;exact Yt (fun h=>g h.1)
 clear g;go_enter func156,ntmps156;go_wp2_with (go_at_call 155;refine(j.out _).mono ?_;rintro e w' ⟨rfl,G,rfl⟩);exact bodyPost_ret (v:=.tuple #[.agg #[.int .i64 p,.int .i64 (f+p*n/d)],.bool false]) (by simp[results,results156,go_sem]<;>omega) rfl ⟨by rw[E.out],(by repeat (first|exact Below.refl _ _|(refine Below.setCell ?_ (by first|(simp;done)|(simp;omega)) _)|(refine Below.alloc ?_ (by first|(simp;done)|(simp;omega)) _)|(refine arith.below_drewN ?_ _)))⟩
theorem Gd(p f n d:Int)(w:World)(m:0≤p)(q:p≤2000)(f1:0≤f)(y:f≤2000)(x:1≤n)(z:n≤100) :
  Calls prog 118 #[.agg #[.int .i64 p,.int .i64 f],.agg #[.int .i64 3,.int .i64 n,.int .i64 d]] w fun e w' =>
   e=.returned (.tuple #[.agg #[.int .i64 (p/n),.int .i64 f],.bool (p%n == 0)])∧Below w.heap.size w w':=by
 have g:=Lib.hid (fun w=>EQ p 1 n w m q oz oz x oz);have j:p*1=p:=oz;rw[j] at g;clear j;go_enter func118,ntmps118;go_wp2_with (go_at_call 155;refine(g.out _).mono ?_;rintro e w' ⟨rfl,A,rfl⟩);exact bodyPost_ret (v:=.tuple #[.agg #[.int .i64 (p/n),.int .i64 f],.bool (p%n == 0)]) (by simp[results,results118,go_sem]) rfl ⟨rfl,(by repeat (first|exact Below.refl _ _|(refine Below.setCell ?_ (by first|(simp;done)|(simp;omega)) _)|(refine Below.alloc ?_ (by first|(simp;done)|(simp;omega)) _)|(refine arith.below_drewN ?_ _)))⟩
theorem UW(p f n d:Int)(w:World)(q:0≤p)(x:p≤2000)(f1:0≤f)(y:f≤2000)(z:1≤n)(A:n≤100) :
  Calls prog 118 #[.agg #[.int .i64 p,.int .i64 f],.agg #[.int .i64 4,.int .i64 n,.int .i64 d]] w fun e w' =>
   e=.returned (.tuple #[.agg #[.int .i64 (p*n),.int .i64 f],.bool true])∧Below w.heap.size w w':=by
 have g:=Lib.hid (fun w=>EQ p n 1 w q x oz oz oz oz);have j:p*n/1=p*n:=oz;have m:(p*n%1 == 0)=true:=by simp
 rw[j,m] at g;clear j m;go_enter func118,ntmps118;go_wp2_with (go_at_call 155;refine(g.out _).mono ?_;rintro e w' ⟨rfl,C,rfl⟩);exact bodyPost_ret (v:=.tuple #[.agg #[.int .i64 (p*n),.int .i64 f],.bool true]) (by simp[results,results118,go_sem]) rfl ⟨rfl,(by repeat (first|exact Below.refl _ _|(refine Below.setCell ?_ (by first|(simp;done)|(simp;omega)) _)|(refine Below.alloc ?_ (by first|(simp;done)|(simp;omega)) _)|(refine arith.below_drewN ?_ _)))⟩
theorem UV(p f n d:Int)(w:World)(m:0≤p)(y:p≤2000)(f1:0≤f)(x:f≤2000)(z:0≤n)(A:n≤100)(C:1≤d)(D:d≤100) :
  Calls prog 118 #[.agg #[.int .i64 p,.int .i64 f],.agg #[.int .i64 5,.int .i64 n,.int .i64 d]] w fun e w' =>
   e=.returned (.tuple #[.agg #[.int .i64 p,.int .i64 (f+p*n/d)],.bool (p*n%d == 0)])∧Below w.heap.size w w':=by
 have q:shB p f n d=(p*n%d == 0):=by
  have F:=Int.mul_nonneg m z;have H:=Int.ediv_nonneg F (show 0≤d by omega);unfold shB;by_cases g:p*n%d=0
  ·rw[decide_eq_true ⟨g,oz⟩];simp[g]
  rw[Yt (fun h=>g h.1)];simp[g]
 have j:=Lib.hid (fun w=>KW p f n d w m y f1 x oz A C D);rw[q] at j;clear q;go_enter func118,ntmps118;go_wp2_with (go_at_call 156;refine(j.out _).mono ?_;rintro e I ⟨rfl,hb⟩;obtain⟨E,G⟩:=arith.YC hb);exact bodyPost_ret (v:=.tuple #[.agg #[.int .i64 p,.int .i64 (f+p*n/d)],.bool (p*n%d == 0)]) (by simp[results,results118,go_sem,E]) rfl ⟨rfl,(by repeat (first|exact Below.refl _ _|(refine Below.setCell ?_ (by first|(simp;done)|(simp;omega)) _)|(refine Below.alloc ?_ (by first|(simp;done)|(simp;omega)) _)|(refine arith.below_drewN ?_ _)|(refine Below.trans ?_ (hb.mono (by first|(simp;done)|(simp;omega))))))⟩
theorem vx(p f n d:Int)(w:World) :
  Calls prog 118 #[.agg #[.int .i64 p,.int .i64 f],.agg #[.int .i64 6,.int .i64 n,.int .i64 d]] w fun e w' =>
   e=.returned (.tuple #[.agg #[.int .i64 p,.int .i64 f],.bool true])∧Below w.heap.size w w':=by
 go_enter func118,ntmps118;go_wp2;exact bodyPost_ret (v:=.tuple #[.agg #[.int .i64 p,.int .i64 f],.bool true]) (by simp[results,results118,go_sem]) rfl ⟨rfl,(by repeat (first|exact Below.refl _ _|(refine Below.setCell ?_ (by first|(simp;done)|(simp;omega)) _)|(refine Below.alloc ?_ (by first|(simp;done)|(simp;omega)) _)|(refine arith.below_drewN ?_ _)))⟩
theorem Ge(p f n d:Int)(w:World)(x:0≤p)(y:p≤2000)(f1:0≤f)(q:f≤2000) :
  Calls prog 118 #[.agg #[.int .i64 p,.int .i64 f],.agg #[.int .i64 7,.int .i64 n,.int .i64 d]] w fun e w' =>
   e=.returned (.tuple #[.agg #[.int .i64 p,.int .i64 (f+p)],.bool true])∧Below w.heap.size w w':=by
 have m:shB p f 1 1=true:=by unfold shB;exact decide_eq_true ⟨oz,oz⟩
 have j:p*1/1=p:=oz;have g:=Lib.hid (fun w=>KW p f 1 1 w x y f1 q oz oz oz oz);rw[m,j] at g;clear m j;go_enter func118,ntmps118;go_wp2_with (go_at_call 156;refine(g.out _).mono ?_;rintro e C ⟨rfl,hb⟩;obtain⟨z,A⟩:=arith.YC hb);exact bodyPost_ret (v:=.tuple #[.agg #[.int .i64 p,.int .i64 (f+p)],.bool true]) (by simp[results,results118,go_sem,z]) rfl ⟨rfl,(by repeat (first|exact Below.refl _ _|(refine Below.setCell ?_ (by first|(simp;done)|(simp;omega)) _)|(refine Below.alloc ?_ (by first|(simp;done)|(simp;omega)) _)|(refine arith.below_drewN ?_ _)|(refine Below.trans ?_ (hb.mono (by first|(simp;done)|(simp;omega))))))⟩
theorem Gc(p f n d:Int)(w:World)(x:0≤p)(y:p≤2000)(f1:0≤f)(q:f≤2000) :
  Calls prog 118 #[.agg #[.int .i64 p,.int .i64 f],.agg #[.int .i64 8,.int .i64 n,.int .i64 d]] w fun e w' =>
   e=.returned (.tuple #[.agg #[.int .i64 p,.int .i64 (f-p)],.bool (decide (p≤f))])∧Below w.heap.size w w':=by
 have m:shB p f (-1) 1=decide (p≤f):=by
  unfold shB;by_cases h:p≤f
  ·rw[decide_eq_true h];exact decide_eq_true ⟨oz,oz⟩
  rw[Yt h];exact Yt oz
 have j:f+p*-1/1=f-p:=oz;have g:=Lib.hid (fun w=>KW p f (-1) 1 w x y f1 q oz oz oz oz);rw[m,j] at g;clear m j;go_enter func118,ntmps118;go_wp2_with (go_at_call 156;refine(g.out _).mono ?_;rintro e C ⟨rfl,hb⟩;obtain⟨z,A⟩:=arith.YC hb);exact bodyPost_ret (v:=.tuple #[.agg #[.int .i64 p,.int .i64 (f-p)],.bool (decide (p≤f))]) (by simp[results,results118,go_sem,z]) rfl ⟨rfl,(by repeat (first|exact Below.refl _ _|(refine Below.setCell ?_ (by first|(simp;done)|(simp;omega)) _)|(refine Below.alloc ?_ (by first|(simp;done)|(simp;omega)) _)|(refine arith.below_drewN ?_ _)|(refine Below.trans ?_ (hb.mono (by first|(simp;done)|(simp;omega))))))⟩
def Km(p f e:Int):Value:=.tuple #[.agg #[.int .i64 p,.int .i64 f],.int .i64 e]
theorem Yy{B k:Nat}{a w:World}(h:Below B a w)(hk:k<a.heap.size):k<w.heap.size:=Yr hk h.size
theorem xP(p f k n d:Int)(w:World)(h:¬(1≤p∧p≤2000∧0≤f∧f≤2000)) :
  Calls prog 77 #[.agg #[.int .i64 p,.int .i64 f],.agg #[.int .i64 k,.int .i64 n,.int .i64 d]] w fun e w'=>e=.returned (Km 0 0 12)∧Below w.heap.size w w':=by
 have j:=Lib.hid (fun w=>Q4 p f w h);clear h;go_enter func77,ntmps77;go_wp2_with (go_at_call 58;(with_reducible refine(j.out _).mono ?_);rintro e g ⟨rfl,hb1⟩;obtain⟨q,x⟩:=arith.YC hb1;have m:w.heap.size<g.heap.size:=Yy hb1 (by first|(simp;done)|(simp;omega));have z:w.heap.size+1<g.heap.size:=Yy hb1 (by first|(simp;done)|(simp;omega));have y:w.heap.size+1+1<g.heap.size:=Yy hb1 (by simp));exact bodyPost_ret (v:=.tuple #[.agg #[.int .i64 0,.int .i64 0],.int .i64 12]) (by simp only[results,results77];go_simp) rfl ⟨rfl,(by repeat (first|exact Below.refl _ _|(refine Below.setCell ?_ oz _)|(refine Below.alloc ?_ oz _)|(refine arith.below_drewN ?_ _)|(refine Below.trans ?_ (hb1.mono oz))))⟩
theorem vl(p f k n d:Int)(w:World)(h:1≤p∧p≤2000∧0≤f∧f≤2000)(g:k<3∨8<k) :
  Calls prog 77 #[.agg #[.int .i64 p,.int .i64 f],.agg #[.int .i64 k,.int .i64 n,.int .i64 d]] w fun e w'=>e=.returned (Km 0 0 12)∧Below w.heap.size w w':=by
 have m:=Lib.hid (fun w=>Xv p f w h);clear h;rcases g with g|g
 all_goals
  go_enter func77,ntmps77;go_wp2_with (go_at_call 58;(with_reducible refine(m.out _).mono ?_);rintro e j ⟨rfl,hb1⟩;obtain⟨x,y⟩:=arith.YC hb1;have q:w.heap.size<j.heap.size:=Yy hb1 (by first|(simp;done)|(simp;omega));have A:w.heap.size+1<j.heap.size:=Yy hb1 (by first|(simp;done)|(simp;omega));have z:w.heap.size+1+1<j.heap.size:=Yy hb1 (by simp))
  all_goals exact bodyPost_ret (v:=.tuple #[.agg #[.int .i64 0,.int .i64 0],.int .i64 12]) (by simp only[results,results77];go_simp) rfl ⟨rfl,(by repeat (first|exact Below.refl _ _|(refine Below.setCell ?_ oz _)|(refine Below.alloc ?_ oz _)|(refine arith.below_drewN ?_ _)|(refine Below.trans ?_ (hb1.mono oz))))⟩
theorem xO(p f k n d:Int)(w:World)(h:1≤p∧p≤2000∧0≤f∧f≤2000)(g:3≤k∧k≤8)(A:Q9 k n d=false) :
  Calls prog 77 #[.agg #[.int .i64 p,.int .i64 f],.agg #[.int .i64 k,.int .i64 n,.int .i64 d]] w fun e w'=>e=.returned (Km 0 0 7)∧Below w.heap.size w w':=by
 have C:=Lib.hid (fun w=>Xv p f w h);have z:=Lib.hid (fun w=>JA k n d w g);rw[A] at z;have L:=g.1;have M:=g.2;clear h g A;go_enter func77,ntmps77;go_wp2_with (first|(go_at_call 58;(with_reducible refine(C.out _).mono ?_);rintro e x ⟨rfl,hb1⟩;obtain⟨E,G⟩:=arith.YC hb1;have j:w.heap.size<x.heap.size:=Yy hb1 (by first|(simp;done)|(simp;omega));have q:w.heap.size+1<x.heap.size:=Yy hb1 (by first|(simp;done)|(simp;omega));have m:w.heap.size+1+1<x.heap.size:=Yy hb1 (by simp))|(go_at_call 117;(with_reducible refine(z.out _).mono ?_);rintro e y ⟨rfl,hb2⟩;obtain⟨F,H⟩:=arith.YC hb2;have D:w.heap.size<y.heap.size:=Yr j hb2.size;have J:w.heap.size+1<y.heap.size:=Yr q hb2.size;have I:w.heap.size+1+1<y.heap.size:=Yr m hb2.size));exact bodyPost_ret (v:=.tuple #[.agg #[.int .i64 0,.int .i64 0],.int .i64 7]) (by simp only[results,results77];go_simp) rfl ⟨rfl,(by repeat (first|exact Below.refl _ _|(refine Below.setCell ?_ oz _)|(refine Below.alloc ?_ oz _)|(refine arith.below_drewN ?_ _)|(refine Below.trans ?_ (hb2.mono oz))|(refine Below.trans ?_ (hb1.mono oz))))⟩
theorem GY(p f k n d Z J:Int)(w:World)(h:1≤p∧p≤2000∧0≤f∧f≤2000)(j:3≤k∧k≤8)(G:Q9 k n d=true)
  (g:∀w,Calls prog 118 #[.agg #[.int .i64 p,.int .i64 f],.agg #[.int .i64 k,.int .i64 n,.int .i64 d]] w fun e w' =>
   e=.returned (.tuple #[.agg #[.int .i64 Z,.int .i64 J],.bool false])∧Below w.heap.size w w') :
  Calls prog 77 #[.agg #[.int .i64 p,.int .i64 f],.agg #[.int .i64 k,.int .i64 n,.int .i64 d]] w fun e w'=>e=.returned (Km 0 0 5)∧Below w.heap.size w w':=by
 have I:=Lib.hid (fun w=>Xv p f w h);have F:=Lib.hid (fun w=>JA k n d w j);rw[G] at F;have H:=Lib.hid g;have k1:=j.1;have k2:=j.2;clear h j G g;go_enter func77,ntmps77;go_wp2_with (first|(go_at_call 58;(with_reducible refine(I.out _).mono ?_);rintro e C ⟨rfl,hb1⟩;obtain⟨M,T⟩:=arith.YC hb1;have m:w.heap.size<C.heap.size:=Yy hb1 (by first|(simp;done)|(simp;omega));have z:w.heap.size+1<C.heap.size:=Yy hb1 (by first|(simp;done)|(simp;omega));have x:w.heap.size+1+1<C.heap.size:=Yy hb1 (by simp))|(go_at_call 117;(with_reducible refine(F.out _).mono ?_);rintro e D ⟨rfl,hb2⟩;obtain⟨O,U⟩:=arith.YC hb2;have q:w.heap.size<D.heap.size:=Yr m hb2.size;have A:w.heap.size+1<D.heap.size:=Yr z hb2.size;have y:w.heap.size+1+1<D.heap.size:=Yr x hb2.size)|(go_at_call 118;(with_reducible refine(H.out _).mono ?_);rintro e E ⟨rfl,hb3⟩;obtain⟨R,V⟩:=arith.YC hb3;have L:w.heap.size<E.heap.size:=Yr q hb3.size;have Y:w.heap.size+1<E.heap.size:=Yr A hb3.size;have X:w.heap.size+1+1<E.heap.size:=Yr y hb3.size));exact bodyPost_ret (v:=.tuple #[.agg #[.int .i64 0,.int .i64 0],.int .i64 5]) (by simp only[results,results77];go_simp) rfl ⟨rfl,(by repeat (first|exact Below.refl _ _|(refine Below.setCell ?_ oz _)|(refine Below.alloc ?_ oz _)|(refine arith.below_drewN ?_ _)|(refine Below.trans ?_ (hb3.mono oz))|(refine Below.trans ?_ (hb2.mono oz))|(refine Below.trans ?_ (hb1.mono oz))))⟩
theorem Kn(p f k n d x m:Int)(w:World)(h:1≤p∧p≤2000∧0≤f∧f≤2000)(q:3≤k∧k≤8)(L:Q9 k n d=true)(M:¬(1≤x∧x≤2000∧0≤m∧m≤2000))
  (j:∀w,Calls prog 118 #[.agg #[.int .i64 p,.int .i64 f],.agg #[.int .i64 k,.int .i64 n,.int .i64 d]] w fun e w' =>
   e=.returned (.tuple #[.agg #[.int .i64 x,.int .i64 m],.bool true])∧Below w.heap.size w w') :
  Calls prog 77 #[.agg #[.int .i64 p,.int .i64 f],.agg #[.int .i64 k,.int .i64 n,.int .i64 d]] w fun e w'=>e=.returned (Km 0 0 7)∧Below w.heap.size w w':=by
 have z:=Lib.hid (fun w=>Q4 x m w M);have tok:=trivial;have R:=Lib.hid (fun w=>Xv p f w h);have J:=Lib.hid (fun w=>JA k n d w q);rw[L] at J;have O:=Lib.hid j;have k1:=q.1;have k2:=q.2;clear h q L j;clear M;go_enter func77,ntmps77;go_wp2_with (first|(have _t:=tok;go_at_call 58;(with_reducible refine(R.out _).mono ?_);rintro e H ⟨rfl,hb1⟩;obtain⟨V,ab⟩:=arith.YC hb1;clear tok;have A:w.heap.size<H.heap.size:=Yy hb1 (by first|(simp;done)|(simp;omega));have F:w.heap.size+1<H.heap.size:=Yy hb1 (by first|(simp;done)|(simp;omega));have D:w.heap.size+1+1<H.heap.size:=Yy hb1 (by simp))|(go_at_call 117;(with_reducible refine(J.out _).mono ?_);rintro e I ⟨rfl,hb2⟩;obtain⟨X,ac⟩:=arith.YC hb2;have C:w.heap.size<I.heap.size:=Yr A hb2.size;have G:w.heap.size+1<I.heap.size:=Yr F hb2.size;have E:w.heap.size+1+1<I.heap.size:=Yr D hb2.size)|(go_at_call 118;(with_reducible refine(O.out _).mono ?_);rintro e g ⟨rfl,hb3⟩;obtain⟨Y,ae⟩:=arith.YC hb3;have T:w.heap.size<g.heap.size:=Yr C hb3.size;have ak:w.heap.size+1<g.heap.size:=Yr G hb3.size;have ai:w.heap.size+1+1<g.heap.size:=Yr E hb3.size)|(go_at_call 58;(with_reducible refine(z.out _).mono ?_);rintro e y ⟨rfl,hb4⟩;obtain⟨Z,af⟩:=arith.YC hb4;have U:w.heap.size<y.heap.size:=Yy hb4 (by first|(simp;done)|(simp;omega));have al:w.heap.size+1<y.heap.size:=Yy hb4 (by first|(simp;done)|(simp;omega));have aj:w.heap.size+1+1<y.heap.size:=Yy hb4 (by first|(simp;done)|(simp;omega));have ah:g.heap.size<y.heap.size:=Yy hb4 (by simp);have aa:w.heap.size+1+1<g.heap.size+1:=oz;have ag:¬w.heap.size+1+1=g.heap.size:=oz));exact bodyPost_ret (v:=.tuple #[.agg #[.int .i64 0,.int .i64 0],.int .i64 7]) (by simp only[results,results77];go_simp) rfl ⟨rfl,(by repeat (first|exact Below.refl _ _|(refine Below.setCell ?_ oz _)|(refine Below.alloc ?_ oz _)|(refine arith.below_drewN ?_ _)|(refine Below.trans ?_ (hb4.mono oz))|(refine Below.trans ?_ (hb3.mono oz))|(refine Below.trans ?_ (hb2.mono oz))|(refine Below.trans ?_ (hb1.mono oz))))⟩
theorem Jq(p f k n d j g:Int)(w:World)(h:1≤p∧p≤2000∧0≤f∧f≤2000)(x:3≤k∧k≤8)(L:Q9 k n d=true)(M:1≤j∧j≤2000∧0≤g∧g≤2000)
  (q:∀w,Calls prog 118 #[.agg #[.int .i64 p,.int .i64 f],.agg #[.int .i64 k,.int .i64 n,.int .i64 d]] w fun e w' =>
   e=.returned (.tuple #[.agg #[.int .i64 j,.int .i64 g],.bool true])∧Below w.heap.size w w') :
  Calls prog 77 #[.agg #[.int .i64 p,.int .i64 f],.agg #[.int .i64 k,.int .i64 n,.int .i64 d]] w fun e w'=>e=.returned (Km j g 0)∧Below w.heap.size w w':=by
 have z:=Lib.hid (fun w=>Xv j g w M);have tok:=trivial;have R:=Lib.hid (fun w=>Xv p f w h);have J:=Lib.hid (fun w=>JA k n d w x);rw[L] at J;have O:=Lib.hid q;have k1:=x.1;have k2:=x.2;clear h x L q;clear M;go_enter func77,ntmps77;go_wp2_with (first|(have _t:=tok;go_at_call 58;(with_reducible refine(R.out _).mono ?_);rintro e H ⟨rfl,hb1⟩;obtain⟨V,ab⟩:=arith.YC hb1;clear tok;have A:w.heap.size<H.heap.size:=Yy hb1 (by first|(simp;done)|(simp;omega));have F:w.heap.size+1<H.heap.size:=Yy hb1 (by first|(simp;done)|(simp;omega));have D:w.heap.size+1+1<H.heap.size:=Yy hb1 (by simp))|(go_at_call 117;(with_reducible refine(J.out _).mono ?_);rintro e I ⟨rfl,hb2⟩;obtain⟨X,ac⟩:=arith.YC hb2;have C:w.heap.size<I.heap.size:=Yr A hb2.size;have G:w.heap.size+1<I.heap.size:=Yr F hb2.size;have E:w.heap.size+1+1<I.heap.size:=Yr D hb2.size)|(go_at_call 118;(with_reducible refine(O.out _).mono ?_);rintro e m ⟨rfl,hb3⟩;obtain⟨Y,ae⟩:=arith.YC hb3;have T:w.heap.size<m.heap.size:=Yr C hb3.size;have ak:w.heap.size+1<m.heap.size:=Yr G hb3.size;have ai:w.heap.size+1+1<m.heap.size:=Yr E hb3.size)|(go_at_call 58;(with_reducible refine(z.out _).mono ?_);rintro e y ⟨rfl,hb4⟩;obtain⟨Z,af⟩:=arith.YC hb4;have U:w.heap.size<y.heap.size:=Yy hb4 (by first|(simp;done)|(simp;omega));have al:w.heap.size+1<y.heap.size:=Yy hb4 (by first|(simp;done)|(simp;omega));have aj:w.heap.size+1+1<y.heap.size:=Yy hb4 (by first|(simp;done)|(simp;omega));have ah:m.heap.size<y.heap.size:=Yy hb4 (by simp);have aa:w.heap.size+1+1<m.heap.size+1:=oz;have ag:¬w.heap.size+1+1=m.heap.size:=oz));exact bodyPost_ret (v:=.tuple #[.agg #[.int .i64 j,.int .i64 g],.int .i64 0]) (by simp only[results,results77];go_simp) rfl ⟨rfl,(by repeat (first|exact Below.refl _ _|(refine Below.setCell ?_ oz _)|(refine Below.alloc ?_ oz _)|(refine arith.below_drewN ?_ _)|(refine Below.trans ?_ (hb4.mono oz))|(refine Below.trans ?_ (hb3.mono oz))|(refine Below.trans ?_ (hb2.mono oz))|(refine Below.trans ?_ (hb1.mono oz))))⟩
def fin(p f:Int):Int × Int × Int:=if f≤2000 then (p,f,0) else (0,0,7)
def YB(p f k n d:Int):Int × Int × Int :=
 if YF p f=false∨k<3∨8<k then (0,0,12)
 else if Q9 k n d=false then (0,0,7)
 else if k=3 then (if p%n=0 then (p/n,f,0) else (0,0,5))
 else if k=4 then (if p*n≤2000 then (p*n,f,0) else (0,0,7))
 else if k=5 then (if p*n%d=0 then fin p (f+p*n/d) else (0,0,5))
 else if k=6 then (p,f,0)
 else if k=7 then fin p (f+p)
 else if p≤f then (p,f-p,0) else (0,0,5)
def yz(r:Int × Int × Int):Value:=Km r.1 r.2.1 r.2.2
theorem kQ{k n d:Int}(f:k=3∨k=4)(h:Q9 k n d=true):1≤n∧n≤100:=by
 unfold Q9 at h;have:=of_decide_eq_true h;omega
theorem Zga{n d:Int}(h:Q9 5 n d=true):1≤d∧d≤100∧0≤n∧n≤100:=by
 unfold Q9 at h;have:=of_decide_eq_true h;omega
theorem KV{p n:Int}(v:1≤p)(x:p≤2000)(j:1≤n)(m:p%n=0):1≤p/n∧p/n≤2000:=by
 have h:=plain.yS p n j;have q:=h.1 oz;refine⟨?_,oz⟩;apply Classical.byContradiction;intro g;have f:p/n=0:=oz;have:=Int.ediv_mul_add_emod p n;rw[f,m] at this;omega
theorem um{p n:Int}(h1:1≤p)(hn:1≤n):1≤p*n:=arith.U6 h1 hn
theorem VY(p f k n d:Int)(w:World) :
  Calls prog 77 #[.agg #[.int .i64 p,.int .i64 f],.agg #[.int .i64 k,.int .i64 n,.int .i64 d]] w fun e w' =>
   e=.returned (yz (YB p f k n d))∧Below w.heap.size w w':=by
 by_cases h:1≤p∧p≤2000∧0≤f∧f≤2000
 ·have F:=YQ h;by_cases E:k<3∨8<k
  ·have e:YB p f k n d=(0,0,12):=by unfold YB;rw[Yv (.inr E)]
   rw[e];exact vl p f k n d w h E
  have g:3≤k∧k≤8:=oz;have x:¬(YF p f=false∨k<3∨8<k):=by rw[F];simp;omega
  cases hn:Q9 k n d with
  | false =>
   have e:YB p f k n d=(0,0,7):=by unfold YB;rw[Yu x,Yv hn]
   rw[e];exact xO p f k n d w h g hn
  | true =>
   have y:¬(Q9 k n d=false):=by rw[hn];simp
   have C:=h.1;have p2:=h.2.1;have f1:=h.2.2.1;have v:=h.2.2.2;have z:k=3∨k=4∨k=5∨k=6∨k=7∨k=8:=oz;rcases z with rfl|rfl|rfl|rfl|rfl|rfl
   ·have j:=kQ (.inl rfl) hn;by_cases m:p%n=0
    ·have q:=KV C p2 j.1 m;have e:YB p f 3 n d=(p/n,f,0):=by unfold YB;rw[Yu x,Yu y,Yv rfl,Yv m]
     rw[e];refine Jq p f 3 n d (p/n) f w h g hn ⟨q.1,q.2,f1,v⟩ fun w=>?_
     have:=Gd p f n d w oz p2 f1 v j.1 j.2
     rwa [show(p%n == 0)=true by simpa using m] at this
    have e:YB p f 3 n d=(0,0,5):=by unfold YB;rw[Yu x,Yu y,Yv rfl,Yu m]
    rw[e];refine GY p f 3 n d (p/n) f w h g hn fun w=>?_
    have:=Gd p f n d w oz p2 f1 v j.1 j.2
    rwa [show(p%n == 0)=false by simpa using m] at this
   ·have j:=kQ (.inr rfl) hn;have G:=um C j.1;by_cases m:p*n≤2000
    ·have e:YB p f 4 n d=(p*n,f,0):=by unfold YB;rw[Yu x,Yu y,Yu oz,Yv rfl,Yv m]
     rw[e];exact Jq p f 4 n d (p*n) f w h g hn ⟨G,m,f1,v⟩ fun w=>UW p f n d w oz p2 f1 v j.1 j.2
    have e:YB p f 4 n d=(0,0,7):=by unfold YB;rw[Yu x,Yu y,Yu oz,Yv rfl,Yu m]
    rw[e];exact Kn p f 4 n d (p*n) f w h g hn oz fun w=>UW p f n d w oz p2 f1 v j.1 j.2
   ·have j:=Zga hn;by_cases m:p*n%d=0
    ·have e:YB p f 5 n d=fin p (f+p*n/d):=by unfold YB;rw[Yu x,Yu y,Yu oz,Yu oz,Yv rfl,Yv m]
     have D:∀w,Calls prog 118 #[.agg #[.int .i64 p,.int .i64 f],.agg #[.int .i64 5,.int .i64 n,.int .i64 d]] w fun e w' =>
       e=.returned (.tuple #[.agg #[.int .i64 p,.int .i64 (f+p*n/d)],.bool true])∧Below w.heap.size w w':=fun w=>by
      have:=UV p f n d w oz p2 f1 v j.2.2.1 j.2.2.2 j.1 j.2.1
      rwa [show(p*n%d == 0)=true by simpa using m] at this
     have H:=Int.ediv_nonneg (Int.mul_nonneg (show 0≤p by omega) j.2.2.1) (show 0≤d by omega);rw[e];unfold fin;by_cases A:f+p*n/d≤2000
     ·rw[Yv A];exact Jq p f 5 n d p (f+p*n/d) w h g hn ⟨C,p2,oz,A⟩ D
     rw[Yu A];exact Kn p f 5 n d p (f+p*n/d) w h g hn oz D
    have e:YB p f 5 n d=(0,0,5):=by unfold YB;rw[Yu x,Yu y,Yu oz,Yu oz,Yv rfl,Yu m]
    rw[e];refine GY p f 5 n d p (f+p*n/d) w h g hn fun w=>?_
    have:=UV p f n d w oz p2 f1 v j.2.2.1 j.2.2.2 j.1 j.2.1
    rwa [show(p*n%d == 0)=false by simpa using m] at this
   ·have e:YB p f 6 n d=(p,f,0):=by unfold YB;rw[Yu x,Yu y,Yu oz,Yu oz,Yu oz,Yv rfl]
    rw[e];exact Jq p f 6 n d p f w h g hn h fun w=>vx p f n d w
   ·have e:YB p f 7 n d=fin p (f+p):=by unfold YB;rw[Yu x,Yu y,Yu oz,Yu oz,Yu oz,Yu oz,Yv rfl]
    rw[e];unfold fin;by_cases A:f+p≤2000
    ·rw[Yv A];exact Jq p f 7 n d p (f+p) w h g hn ⟨C,p2,oz,A⟩ fun w=>Ge p f n d w oz p2 f1 v
    rw[Yu A];exact Kn p f 7 n d p (f+p) w h g hn oz fun w=>Ge p f n d w oz p2 f1 v
   by_cases m:p≤f
   ·have e:YB p f 8 n d=(p,f-p,0):=by unfold YB;rw[Yu x,Yu y,Yu oz,Yu oz,Yu oz,Yu oz,Yu oz,Yv m]
    rw[e];refine Jq p f 8 n d p (f-p) w h g hn ⟨C,p2,oz,oz⟩ fun w=>?_
    have:=Gc p f n d w oz p2 f1 v
    rwa [show decide (p≤f)=true by simpa using m] at this
   have e:YB p f 8 n d=(0,0,5):=by unfold YB;rw[Yu x,Yu y,Yu oz,Yu oz,Yu oz,Yu oz,Yu oz,Yu m]
   rw[e];refine GY p f 8 n d p (f-p) w h g hn fun w=>?_
   have:=Gc p f n d w oz p2 f1 v
   rwa [show decide (p≤f)=false by simpa using m] at this
 have e:YB p f k n d=(0,0,12):=by unfold YB;rw[Yv (.inl (Q5 h))]
 rw[e];exact xP p f k n d w h
def YO:Int→Int→List (Int × Int × Int)→Int × Int × Int
 | p,f,[]=>(p,f,0)
 | p,f,o::l=>let r:=YB p f o.1 o.2.1 o.2.2;if r.2.2=0 then YO r.1 r.2.1 l else (0,0,r.2.2)
def Ur(p f:Int)(l:List (Int × Int × Int)):Int × Int × Int:=if YF p f=true then YO p f l else (0,0,12)
theorem gT(p f:Int)(v:Value)(w:World)(h:¬(1≤p∧p≤2000∧0≤f∧f≤2000)) :
  Calls prog 106 #[.agg #[.int .i64 p,.int .i64 f],v] w fun e w'=>e=.returned (Km 0 0 12)∧Below w.heap.size w w':=by
 have j:=Lib.hid (fun w=>Q4 p f w h);clear h;go_enter func106,ntmps106;go_wp2_with (go_at_call 58;(with_reducible refine(j.out _).mono ?_);rintro e g ⟨rfl,hb1⟩;obtain⟨q,x⟩:=arith.YC hb1;have m:w.heap.size<g.heap.size:=Yy hb1 (by first|(simp;done)|(simp;omega));have y:w.heap.size+1<g.heap.size:=Yy hb1 (by simp));exact bodyPost_ret (v:=.tuple #[.agg #[.int .i64 0,.int .i64 0],.int .i64 12]) (by simp only[results,results106];go_simp) rfl ⟨rfl,(by repeat (first|exact Below.refl _ _|(refine Below.setCell ?_ oz _)|(refine Below.alloc ?_ oz _)|(refine Below.trans ?_ (hb1.mono oz))))⟩
def va(B:Nat)(w:World)(p f:Int)(l:List (Int × Int × Int))(k:Nat)(p' f':Int)(wr:World):Prop :=
 YO p' f' (l.drop k)=YO p f l∧Below B w wr∧B+1<wr.heap.size ∧
 wr.cell? ⟨B,0,none⟩=some (.int .i64 p')∧wr.cell? ⟨B,1,none⟩=some (.int .i64 f')∧wr.cell? ⟨B+1,0,none⟩=some (.int .i64 0)∧wr.cell? ⟨B+1,1,none⟩=some (.int .i64 0) ∧
 wr.frozen? ⟨B,0,none⟩=false∧wr.frozen? ⟨B,1,none⟩=false∧wr.frozen? ⟨B+1,0,none⟩=false∧wr.frozen? ⟨B+1,1,none⟩=false
theorem xM{B:Nat}{w wr w2:World}{p f:Int}{l:List (Int × Int × Int)}{k:Nat}{H C p2 m:Int}{o G:Obj}(h:va B w p f l k H C wr)
  (E:YO p2 m (l.drop (k+1))=YO p f l)(hb:Below (wr.alloc o).heap.size (wr.alloc o) w2) :
  va B w p f l (k+1) p2 m (((w2.setCell ⟨B,0,none⟩ (.int .i64 p2)).setCell ⟨B,1,none⟩ (.int .i64 m)).alloc G):=by
 obtain⟨D,v,j,c0,c1,c2,c3,x,y,z,A⟩:=h;have F:=hb.size;rw[World.size_alloc] at F;have g:Below wr.heap.size wr w2:=Below.trans ((Below.refl _ _).alloc (Yq _) o) (hb.mono (by rw[World.size_alloc];omega));have s0:B<wr.heap.size:=oz;have s3:B<w2.heap.size:=oz;have s4:B+1<w2.heap.size:=oz;have I:=(g.cell (p:=⟨B,0,none⟩) s0).trans c0;have J:=(g.cell (p:=⟨B,1,none⟩) s0).trans c1;have L:=(g.cell (p:=⟨B+1,0,none⟩) j).trans c2;have M:=(g.cell (p:=⟨B+1,1,none⟩) j).trans c3;have O:=(g.frozen (p:=⟨B,0,none⟩) s0).trans x;have R:=(g.frozen (p:=⟨B,1,none⟩) s0).trans y;have T:=(g.frozen (p:=⟨B+1,0,none⟩) j).trans z;have U:=(g.frozen (p:=⟨B+1,1,none⟩) j).trans A;have q:Below B w w2:=v.trans (g.mono oz);clear g hb v c0 c1 c2 c3 x y z A D;refine⟨E,?_,?_,?_,?_,?_,?_,?_,?_,?_,?_⟩
 ·exact Below.alloc (Below.setCell (Below.setCell q (Yq _) _) (Yq _) _) (by simp;omega) _
 ·simp;omega
 all_goals go_simp
theorem Uq{l r:List (Int × Int × Int)}{p f k n d p2 j:Int}{X:Int × Int × Int}(hd:l=(k,n,d)::r)(m:YB p f k n d=(p2,j,0))(g:YO p f l=X):YO p2 j r=X:=by
 rw[hd,YO] at g;simp only[m] at g;rw[Yv trivial] at g;exact g
theorem vk{l r:List (Int × Int × Int)}{p f k n d p2 j e:Int}{X:Int × Int × Int}(hd:l=(k,n,d)::r)(q:YB p f k n d=(p2,j,e))(m:¬e=0)(g:YO p f l=X):X=(0,0,e):=by
 rw[hd,YO] at g;simp only[q] at g;rw[Yu m] at g;exact g.symm
theorem vK{l:List (Int × Int × Int)}{k:Nat}(h:k<l.length):l.drop k=l.getD k (0,0,0)::l.drop (k+1):=by
 rw[List.drop_eq_getElem_cons h,plain.getD_lt _ h]
theorem Zdh(p f:Int)(a:Option Addr)(cap:Nat)(l:List (Int × Int × Int))(w:World)(h:1≤p∧p≤2000∧0≤f∧f≤2000)(hl:l.length≤9223372036854775807)
  (g:∀k,k<l.length→∃b off,a=some ⟨b,off,none⟩∧b<w.heap.size∧w.cell? ⟨b,off+k*3,none⟩=some (.int .i64 (l.getD k (0,0,0)).1)∧w.cell? ⟨b,off+k*3+1,none⟩=some (.int .i64 (l.getD k (0,0,0)).2.1)∧w.cell? ⟨b,off+k*3+2,none⟩=some (.int .i64 (l.getD k (0,0,0)).2.2)) :
  Calls prog 106 #[.agg #[.int .i64 p,.int .i64 f],.slice a l.length cap] w fun e w'=>e=.returned (yz (YO p f l))∧Below w.heap.size w w':=by
 have HR:=Lib.hid (fun w=>Xv p f w h);have HC:=Lib.hid g;clear h g;go_enter func106,ntmps106;go_wp2_with (go_at_call 58;(with_reducible refine(HR.out _).mono ?_);rintro e w1 ⟨rfl,hb1⟩;obtain⟨J,M⟩:=arith.YC hb1;have H:w.heap.size<w1.heap.size:=Yy hb1 (by first|(simp;done)|(simp;omega));have C:w.heap.size+1<w1.heap.size:=Yy hb1 (by simp));go_loopw [16] (fun i wr=>∃(k:Nat)(x q:Int),k≤l.length∧i=.int .i64 k∧va w.heap.size w p f l k x q wr) (fun i _=>l.length-(intOf i).toNat)
 case atStart =>
  refine⟨0,p,f,oz,rfl,rfl,?_,C,?_,?_,?_,?_,?_,?_,?_,?_⟩
  ·exact Below.trans (((Below.refl _ _).alloc oz _).alloc oz _) (hb1.mono oz)
  all_goals go_simp
 obtain⟨k,x,q,hk,rfl,hrel⟩:=hrel;have y:=Lib.hid hrel;obtain⟨X,Y,hz,c0,c1,c2,c3,z0,z1,z2,z3⟩:=hrel;have F:=Lib.hid X;have HB:=Lib.hid Y;clear X Y J M hb1 H C;have ha:w.heap.size<wr.heap.size:=oz;by_cases A:k<l.length
 ·have hd:=Lib.hid (vK A);obtain⟨b,off,rfl,I,T,U,V⟩:=HC.out k A;rw[←HB.out.cell (p:=⟨b,_,none⟩) I] at T U V;generalize l.getD k (0,0,0)=o at *;obtain⟨ok,on,Z⟩:=o;simp only at T U V;generalize hr:YB x q ok on Z=r;obtain⟨p2,f2,G⟩:=r;have m:=Lib.hid (fun w=>VY x q ok on Z w);simp only[hr,yz,Km] at m;have R:=Lib.hid hr;clear hr;have n1:¬w.heap.size=wr.heap.size:=oz;have n2:¬w.heap.size+1=wr.heap.size:=oz;have s1:w.heap.size<wr.heap.size+1:=oz;have s2:w.heap.size+1<wr.heap.size+1:=oz;by_cases D:G=0
  ·subst D;go_wp2_with (go_at_call 77;(with_reducible refine(m.out _).mono ?_);rintro e j ⟨rfl,hb2⟩;have HB2:=Lib.hid hb2;obtain⟨L,O⟩:=arith.YC hb2;have s3:w.heap.size<j.heap.size:=Yy hb2 oz;have s4:w.heap.size+1<j.heap.size:=Yy hb2 oz;have n3:¬w.heap.size=j.heap.size:=oz;have n4:¬w.heap.size+1=j.heap.size:=oz);go_roundw
   case rel=>exact⟨k+1,p2,f2,oz,by go_num,xM y.out (Uq hd.out R.out F.out) HB2.out⟩
   simp[intOf];omega
  have aa:(G != 0)=true:=by simpa using D
  have E:=Lib.hid (vk hd.out R.out D F.out);clear D;go_wp2_with (go_at_call 77;(with_reducible refine(m.out _).mono ?_);rintro e j ⟨rfl,hb2⟩;have HB2:=Lib.hid hb2;obtain⟨L,O⟩:=arith.YC hb2;have s3:w.heap.size<j.heap.size:=Yy hb2 oz;have s4:w.heap.size+1<j.heap.size:=Yy hb2 oz;have n3:¬w.heap.size=j.heap.size:=oz;have n4:¬w.heap.size+1=j.heap.size:=oz);exact bodyPost_ret (v:=.tuple #[.agg #[.int .i64 0,.int .i64 0],.int .i64 G]) (by simp only[results,results106];go_simp) rfl ⟨by rw[E.out];rfl,(by repeat (first|exact Below.refl _ _|exact HB.out|(refine Below.setCell ?_ oz _)|(refine Below.alloc ?_ oz _)|(refine Below.trans ?_ (HB2.out.mono oz))))⟩
 have z:k=l.length:=oz;have E:Hid (YO p f l=(x,q,0)):=by have:=F.out;rw[z,List.drop_length,YO] at this;exact this.symm
 subst z;go_wp2;exact bodyPost_ret (v:=.tuple #[.agg #[.int .i64 x,.int .i64 q],.int .i64 0]) (by simp only[results,results106];go_simp) rfl ⟨by rw[E.out];rfl,(by repeat (first|exact Below.refl _ _|exact HB.out|(refine Below.setCell ?_ oz _)|(refine Below.alloc ?_ oz _)))⟩
end Go.Proofs.YtgigilkpndhddaaGreatDoor.clock
namespace Go.Proofs.YtgigilkpndhddaaGreatDoor.index
open Tryz
open Go.RowKit clock
abbrev Op3:=Int × Int × Int
def Xw(o:Op3):Bool:=if o.1=3∨o.1=4 then decide (o.2.1<1) else decide (o.1<3∨8<o.1)
def XZ(o:Op3):Bool:=decide (o.1=6∨o.1=8)
def Xb(o:Op3):Bool:=decide (o.1=6∨(o.1=5∧¬o.2.1=0))
theorem ZaT(k n d:Int)(w:World) :
  Calls prog 140 #[.agg #[.int .i64 k,.int .i64 n,.int .i64 d]] w fun e w'=>e=.returned (.bool (Xw (k,n,d)))∧Below w.heap.size w w':=by
 by_cases f:k=3∨k=4
 ·rcases f with rfl|rfl
  all_goals
   go_enter func140,ntmps140;go_wp2;go_ret;exact⟨Xx (by simp[Xw]),Vg _⟩
 have m:(k == 3)=false:=Ys.2 oz;have q:(k == 4)=false:=Ys.2 oz;have E:Hid (Xw (k,n,d)=decide (k<3∨8<k)):=by unfold Xw;exact Yu f
 clear f;by_cases g:k<3
 ·go_enter func140,ntmps140;go_wp2;go_ret;exact⟨Xx (by rw[E.out];simp;omega),Vg _⟩
 have j:decide (k<3)=false:=Yt g;go_enter func140,ntmps140;go_wp2;go_ret;exact⟨Xx (by rw[E.out];simp;omega),Vg _⟩
theorem vt(k n d:Int)(w:World) :
  Calls prog 142 #[.agg #[.int .i64 k,.int .i64 n,.int .i64 d]] w fun e w'=>e=.returned (.bool (XZ (k,n,d)))∧Below w.heap.size w w':=by
 by_cases f:k=6
 ·subst f;go_enter func142,ntmps142;go_wp2;go_ret;exact⟨Xx (by simp[XZ]),Vg _⟩
 have g:(k == 6)=false:=Ys.2 f;have E:Hid (XZ (k,n,d)=(k == 8)):=by unfold XZ;show _=_;cases h:(k == 8)<;>simp_all
 clear f;go_enter func142,ntmps142;go_wp2;go_ret;exact⟨Xx (by rw[E.out]),Vg _⟩
theorem vG(k n d:Int)(w:World) :
  Calls prog 162 #[.agg #[.int .i64 k,.int .i64 n,.int .i64 d]] w fun e w'=>e=.returned (.bool (Xb (k,n,d)))∧Below w.heap.size w w':=by
 by_cases f:k=6
 ·subst f;go_enter func162,ntmps162;go_wp2;go_ret;exact⟨Xx (by simp[Xb]),Vg _⟩
 have m:(k == 6)=false:=Ys.2 f;by_cases g:k=5
 ·subst g;have E:Hid (Xb (5,n,d)=(n != 0)):=by unfold Xb;show _=_;simp;cases h:(n != 0)<;>simp_all
  clear f;go_enter func162,ntmps162;go_wp2;go_ret;exact⟨Xx (by rw[E.out]),Vg _⟩
 have j:(k == 5)=false:=Ys.2 g;have E:Hid (Xb (k,n,d)=false):=by unfold Xb;show _=_;simp[f,g]
 clear f g;go_enter func162,ntmps162;go_wp2;go_ret;exact⟨Xx (by rw[E.out]),Vg _⟩
def Qd(o:Op3)(n:Int):Option Int :=
 if o.1=3 then some (n/o.2.1)
 else if o.1=4 then (if n*o.2.1≤1099511627776 then some (n*o.2.1) else none)
 else if o.1=6∨o.1=8 then some (n-1)
 else if o.1=7 then (if n<1099511627776 then some (n+1) else none)
 else some n
def ZeG(x:Option Int)(e:Ending):Prop:=match x with
 | some t=>e=.returned (.tuple #[.int .i64 t,.bool true])
 | none=>∃t,e=.returned (.tuple #[.int .i64 t,.bool false])
theorem KU{n N:Int}(f:0≤n)(m:1≤N):0≤n/N∧n/N≤n:=by
 have g:=Int.ediv_nonneg f (show 0≤N by omega);have j:=Int.ediv_le_self N f;exact⟨g,j⟩
theorem Ec(k N d n:Int)(w:World)(j:Xw (k,N,d)=false)(y:0≤n)(J:n≤1099511627776)(hb:¬(n=0∧XZ (k,N,d)=true)) :
  Calls prog 143 #[.agg #[.int .i64 k,.int .i64 N,.int .i64 d],.int .i64 n] w fun e w'=>ZeG (Qd (k,N,d) n) e∧Below w.heap.size w w':=by
 by_cases q:k=3
 ·subst q;have z:1≤N:=by simp[Xw] at j;omega
  have D:=KU y z;have G:IntKind.i64.wrap (n.tdiv N)=n/N:=by rw[Int.tdiv_eq_ediv_of_nonneg y,IntWalk.i64_in _ oz]
  have H:(N == 0)=false:=Ys.2 oz;have I:¬N=0:=oz;have E:Hid (Qd (3,N,d) n=some (n/N)):=rfl;clear j hb D;go_enter func143,ntmps143;go_wp2;go_ret2;exact⟨by rw[E.out];rfl,(by repeat (first|(with_reducible exact Below.refl _ _)|((with_reducible refine Y2 ?_ ?_ _);(rotate_left;focus (first|omega|(simp;done)|(simp;omega))))|((with_reducible refine Below.alloc ?_ ?_ _);(rotate_left;focus (first|omega|(simp;done)|(simp;omega))))|(with_reducible refine below_drewN ?_ _)|(with_reducible refine Below.drew ?_)))⟩
 have F:(k == 3)=false:=Ys.2 q;by_cases v:k=4
 ·subst v;have z:1≤N:=by simp[Xw] at j;omega
  have D:=KU (n:=1099511627776) oz z;have G:IntKind.i64.wrap ((1099511627776:Int).tdiv N)=1099511627776/N:=by rw[Int.tdiv_eq_ediv_of_nonneg oz,IntWalk.i64_in _ oz]
  have H:(N == 0)=false:=Ys.2 oz;have I:¬N=0:=oz;by_cases g:n*N≤1099511627776
  ·have m:n≤1099511627776/N:=(Int.le_ediv_iff_mul_le oz).2 g;have A:=Int.mul_nonneg y (show 0≤N by omega);have U:IntKind.i64.wrap (n*N)=n*N:=IntWalk.i64_in _ oz;have E:Hid (Qd (4,N,d) n=some (n*N)):=by unfold Qd;show _=_;simp[g]
   clear j hb g A F;go_enter func143,ntmps143;go_wp2;go_quiet (fail);go_wp2;go_ret2;exact⟨by rw[E.out];rfl,arith.below_drewN (Vg _) _⟩
  have m:¬n≤1099511627776/N:=fun h=>g ((Int.le_ediv_iff_mul_le oz).1 h)
  have C:1099511627776/N<n:=oz;have f1:decide (n≤1099511627776/N)=false:=Yt m;have E:Hid (Qd (4,N,d) n=none):=by unfold Qd;show _=_;simp[g]
  clear j hb g m F;go_enter func143,ntmps143;go_wp2;go_quiet (fail);go_wp2;go_ret2;exact⟨by rw[E.out];exact⟨_,rfl⟩,arith.below_drewN (Vg _) _⟩
 have M:(k == 4)=false:=Ys.2 v;by_cases f:k=6∨k=8
 ·have L:1≤n:=by
   have:XZ (k,N,d)=true:=by simp[XZ,f]
   have:¬n=0:=fun h=>hb ⟨h,this⟩
   omega
  have E:Hid (Qd (k,N,d) n=some (n-1)):=by unfold Qd;show _=_;simp[q,v,f]
  clear j hb q v;rcases f with rfl|rfl
  all_goals
   go_enter func143,ntmps143;go_wp2;go_ret2;exact⟨by rw[E.out];rfl,(by repeat (first|(with_reducible exact Below.refl _ _)|((with_reducible refine Y2 ?_ ?_ _);(rotate_left;focus (first|omega|(simp;done)|(simp;omega))))|((with_reducible refine Below.alloc ?_ ?_ _);(rotate_left;focus (first|omega|(simp;done)|(simp;omega))))|(with_reducible refine below_drewN ?_ _)|(with_reducible refine Below.drew ?_)))⟩
 have O:(k == 6)=false:=Ys.2 oz;have T:(k == 8)=false:=Ys.2 oz;by_cases x:k=7
 ·subst x;by_cases g:n<1099511627776
  ·have E:Hid (Qd (7,N,d) n=some (n+1)):=by unfold Qd;show _=_;simp[g]
   clear j hb;go_enter func143,ntmps143;go_wp2;go_ret2;exact⟨by rw[E.out];rfl,(by repeat (first|(with_reducible exact Below.refl _ _)|((with_reducible refine Y2 ?_ ?_ _);(rotate_left;focus (first|omega|(simp;done)|(simp;omega))))|((with_reducible refine Below.alloc ?_ ?_ _);(rotate_left;focus (first|omega|(simp;done)|(simp;omega))))|(with_reducible refine below_drewN ?_ _)|(with_reducible refine Below.drew ?_)))⟩
  have E:Hid (Qd (7,N,d) n=none):=by unfold Qd;show _=_;simp[g]
  clear j hb;go_enter func143,ntmps143;go_wp2;go_ret2;exact⟨by rw[E.out];exact⟨_,rfl⟩,(by repeat (first|(with_reducible exact Below.refl _ _)|((with_reducible refine Y2 ?_ ?_ _);(rotate_left;focus (first|omega|(simp;done)|(simp;omega))))|((with_reducible refine Below.alloc ?_ ?_ _);(rotate_left;focus (first|omega|(simp;done)|(simp;omega))))|(with_reducible refine below_drewN ?_ _)|(with_reducible refine Below.drew ?_)))⟩
 have R:(k == 7)=false:=Ys.2 x;have E:Hid (Qd (k,N,d) n=some n):=by unfold Qd;show _=_;simp[q,v,f,x]
 clear j hb q v f x;go_enter func143,ntmps143;go_wp2;go_ret2;exact⟨by rw[E.out];rfl,(by repeat (first|(with_reducible exact Below.refl _ _)|((with_reducible refine Y2 ?_ ?_ _);(rotate_left;focus (first|omega|(simp;done)|(simp;omega))))|((with_reducible refine Below.alloc ?_ ?_ _);(rotate_left;focus (first|omega|(simp;done)|(simp;omega))))|(with_reducible refine below_drewN ?_ _)|(with_reducible refine Below.drew ?_)))⟩
def OpA(w:World)(a:Option Addr)(l:List Op3):Prop:=∀k,k<l.length→∃b off,a=some ⟨b,off,none⟩∧b<w.heap.size ∧
 w.cell? ⟨b,off+k*3,none⟩=some (.int .i64 (l.getD k (0,0,0)).1)∧w.cell? ⟨b,off+k*3+1,none⟩=some (.int .i64 (l.getD k (0,0,0)).2.1)∧w.cell? ⟨b,off+k*3+2,none⟩=some (.int .i64 (l.getD k (0,0,0)).2.2)
theorem OpA.below{B:Nat}{w g:World}{a:Option Addr}{l:List Op3}(h:OpA w a l)(hb:Below B w g)(y:w.heap.size≤B):OpA g a l:=by
 intro k x;obtain⟨b,off,rfl,j,m,q,v⟩:=h k x;have f:b<B:=oz;exact⟨b,off,rfl,Yr j hb.size,(hb.cell (p:=⟨b,_,none⟩) f).trans m,(hb.cell (p:=⟨b,_,none⟩) f).trans q,(hb.cell (p:=⟨b,_,none⟩) f).trans v⟩
theorem xN{P:Op3→Bool}{l:List Op3}{k:Nat}(f:k<l.length)(h:(l.take k).any P=false)(g:P (l.getD k (0,0,0))=false):(l.take (k+1)).any P=false:=by
 rw[List.take_succ_eq_append_getElem f,List.any_append,h,←plain.getD_lt (0,0,0) f];simp only[List.any_cons,List.any_nil,g,Bool.or_false]
theorem kF{P:Op3→Bool}{l:List Op3}{k:Nat}(g:k<l.length)(f:P (l.getD k (0,0,0))=true):l.any P=true:=by
 rw[List.any_eq_true];rw[plain.getD_lt _ g] at f;exact⟨_,List.getElem_mem g,f⟩
theorem Gr
  (l:List Op3)(a:Option Addr)(cap:Nat)(w:World)(G:l.length≤9223372036854775807)(z:OpA w a l) :
  Calls prog 164 #[.slice a l.length cap,.func (.func 140) #[] #[]] w fun e w'=>(∃i:Int,e=.returned (.int .i64 i)∧l.any Xw=decide (0≤i))∧Below w.heap.size w w':=by
 have C:=Lib.hid ZaT;have A:=Lib.hid z;clear z;go_enter func164,ntmps164;go_wp2;go_loopw [8] (fun i wr=>∃(k:Nat),k≤l.length∧i=.int .i64 k∧Hid (Below w.heap.size w wr∧(l.take k).any Xw=false)) (fun i _=>l.length-(intOf i).toNat)
 case atStart=>exact⟨0,oz,rfl,Below.refl _ _,by simp⟩
 obtain⟨k,F,rfl,hrel⟩:=hrel;have f:=hrel;clear hrel;by_cases g:k<l.length
 ·obtain⟨b,off,rfl,hb,c0,c1,c2⟩:=(A.out.below f.out.1 (Yq _)) k g;have j:=Lib.hid (C.out (l.getD k (0,0,0)).1 (l.getD k (0,0,0)).2.1 (l.getD k (0,0,0)).2.2);have m:((l.getD k (0,0,0)).1,(l.getD k (0,0,0)).2.1,(l.getD k (0,0,0)).2.2)=l.getD k (0,0,0):=rfl;rw[m] at j;obtain⟨x,v⟩:∃x,l.getD k (0,0,0)=x:=⟨_,rfl⟩;have y:=Lib.hid v;rw[v] at c0 c1 c2 j;clear v m
  cases hpx:Xw x with
  | true =>
   rw[hpx] at j;go_wp2_with (go_at_call 140;(with_reducible refine(j.out _).mono ?_);rintro e D ⟨rfl,hb1⟩;have HB1:=Lib.hid hb1;clear hb1);go_ret;exact⟨⟨_,rfl,by rw[kF g (by rw[y.out,hpx])];simp⟩,f.out.1.trans (HB1.out.mono f.out.1.size)⟩
  | false =>
   rw[hpx] at j;go_wp2_with (go_at_call 140;(with_reducible refine(j.out _).mono ?_);rintro e D ⟨rfl,hb1⟩;have HB1:=Lib.hid hb1;clear hb1);go_roundw
   case rel=>exact⟨k+1,oz,by go_num,f.out.1.trans (HB1.out.mono f.out.1.size),xN (P:=_) g f.out.2 (by rw[y.out,hpx])⟩
   simp[intOf];omega
 have q:k=l.length:=oz;subst q;have E:Hid (l.any Xw=false):=by have:=f.out.2;rw[List.take_length] at this;exact this
 go_wp2;go_ret;exact⟨⟨_,rfl,by rw[E.out];decide⟩,f.out.1⟩
theorem Jy
  (l:List Op3)(a:Option Addr)(cap:Nat)(w:World)(m:l.length≤9223372036854775807)(f:OpA w a l) :
  Calls prog 139 #[.slice a l.length cap,.func (.func 140) #[] #[]] w fun e w'=>e=.returned (.bool (l.any Xw))∧Below w.heap.size w w':=by
 have g:=Lib.hid (Gr l a cap w m f);clear f;go_enter func139,ntmps139;go_wp2_with (go_at_call 164;(with_reducible refine g.out.mono ?_);rintro e q ⟨⟨i,rfl,hi⟩,hb1⟩;have j:=Lib.hid hi;have HB1:=Lib.hid hb1;clear hi hb1);go_ret;exact⟨Xx (by rw[j.out]),HB1.out⟩
theorem KJ
  (l:List Op3)(a:Option Addr)(cap:Nat)(w:World)(G:l.length≤9223372036854775807)(z:OpA w a l) :
  Calls prog 164 #[.slice a l.length cap,.func (.func 162) #[] #[]] w fun e w'=>(∃i:Int,e=.returned (.int .i64 i)∧l.any Xb=decide (0≤i))∧Below w.heap.size w w':=by
 have C:=Lib.hid vG;have A:=Lib.hid z;clear z;go_enter func164,ntmps164;go_wp2;go_loopw [8] (fun i wr=>∃(k:Nat),k≤l.length∧i=.int .i64 k∧Hid (Below w.heap.size w wr∧(l.take k).any Xb=false)) (fun i _=>l.length-(intOf i).toNat)
 case atStart=>exact⟨0,oz,rfl,Below.refl _ _,by simp⟩
 obtain⟨k,F,rfl,hrel⟩:=hrel;have f:=hrel;clear hrel;by_cases g:k<l.length
 ·obtain⟨b,off,rfl,hb,c0,c1,c2⟩:=(A.out.below f.out.1 (Yq _)) k g;have j:=Lib.hid (C.out (l.getD k (0,0,0)).1 (l.getD k (0,0,0)).2.1 (l.getD k (0,0,0)).2.2);have m:((l.getD k (0,0,0)).1,(l.getD k (0,0,0)).2.1,(l.getD k (0,0,0)).2.2)=l.getD k (0,0,0):=rfl;rw[m] at j;obtain⟨x,v⟩:∃x,l.getD k (0,0,0)=x:=⟨_,rfl⟩;have y:=Lib.hid v;rw[v] at c0 c1 c2 j;clear v m
  cases hpx:Xb x with
  | true =>
   rw[hpx] at j;go_wp2_with (go_at_call 162;(with_reducible refine(j.out _).mono ?_);rintro e D ⟨rfl,hb1⟩;have HB1:=Lib.hid hb1;clear hb1);go_ret;exact⟨⟨_,rfl,by rw[kF g (by rw[y.out,hpx])];simp⟩,f.out.1.trans (HB1.out.mono f.out.1.size)⟩
  | false =>
   rw[hpx] at j;go_wp2_with (go_at_call 162;(with_reducible refine(j.out _).mono ?_);rintro e D ⟨rfl,hb1⟩;have HB1:=Lib.hid hb1;clear hb1);go_roundw
   case rel=>exact⟨k+1,oz,by go_num,f.out.1.trans (HB1.out.mono f.out.1.size),xN (P:=_) g f.out.2 (by rw[y.out,hpx])⟩
   simp[intOf];omega
 have q:k=l.length:=oz;subst q;have E:Hid (l.any Xb=false):=by have:=f.out.2;rw[List.take_length] at this;exact this
 go_wp2;go_ret;exact⟨⟨_,rfl,by rw[E.out];decide⟩,f.out.1⟩
theorem Ub
  (l:List Op3)(a:Option Addr)(cap:Nat)(w:World)(m:l.length≤9223372036854775807)(f:OpA w a l) :
  Calls prog 139 #[.slice a l.length cap,.func (.func 162) #[] #[]] w fun e w'=>e=.returned (.bool (l.any Xb))∧Below w.heap.size w w':=by
 have g:=Lib.hid (KJ l a cap w m f);clear f;go_enter func139,ntmps139;go_wp2_with (go_at_call 164;(with_reducible refine g.out.mono ?_);rintro e q ⟨⟨i,rfl,hi⟩,hb1⟩;have j:=Lib.hid hi;have HB1:=Lib.hid hb1;clear hi hb1);go_ret;exact⟨Xx (by rw[j.out]),HB1.out⟩
theorem Zah(l:List Op3)(a:Option Addr)(cap:Nat)(w:World)(j:l.length≤9223372036854775807)(f:OpA w a l) :
  Calls prog 136 #[.slice a l.length cap] w fun e w'=>e=.returned (.bool (l.any Xb))∧Below w.heap.size w w':=by
 have g:=Lib.hid (Ub l a cap w j f);clear f;go_enter func136,ntmps136;go_wp2_with (go_at_call 139;(with_reducible refine g.out.mono ?_);rintro e m ⟨rfl,hb1⟩;have HB1:=Lib.hid hb1;clear hb1);go_ret;exact⟨rfl,HB1.out⟩
end Go.Proofs.YtgigilkpndhddaaGreatDoor.index
namespace Go.Proofs.YtgigilkpndhddaaGreatDoor.syn
open Tryz
open Go.RowKit
theorem Zaz{F:Fence}(hd:F.depth=none)(k:Nat):F.room k:=fun d h=>by rw[hd] at h;cases h
theorem YieldAt.deep{F:Fence}(hd:F.depth=none){m:Nat}(q:Nat){P:Program}{l:Nat}{args:Array Value}{W:World}{R:Ending→World→Prop}(h:YieldAt F m P l args W R):YieldAt F q P l args W R:=by
 obtain⟨j,f,assign,body,hy,g⟩:=h;exact⟨j,f,assign,body,hy,⟨g.1,fun c cs _=>g.2 c cs (Zaz hd _)⟩⟩
structure KC (n₀:Nat) (W W':World):Prop where
 below:Below n₀ W W'
 same:∀(k:Nat)(o:Obj),W.heap[k]?=some o→o.isCells=true→W'.heap[k]?=some o
theorem KC.refl(n₀:Nat)(W:World):KC n₀ W W:=⟨Below.refl _ _,fun _ _ h _=>h⟩
theorem KC.trans{n₀:Nat}{A B C:World}(h:KC n₀ A B)(k:KC n₀ B C):KC n₀ A C:=⟨h.below.trans k.below,fun i o hi ho=>k.same i o (h.same i o hi ho) ho⟩
theorem KC.alloc{n₀:Nat}{A W:World}(h:KC n₀ A W)(hn:n₀≤W.heap.size)(o:Obj):KC n₀ A (W.alloc o) :=
 h.trans ⟨(Below.refl _ _).alloc hn _,fun k x hk _=>(Below.heap_alloc W o k (Array.getElem?_eq_some_iff.1 hk).1).trans hk⟩
theorem KC.putObj{n₀:Nat}(W:World)(l:Nat)(o o':Obj)(hl:n₀≤l)(h:W.heap[l]?=some o)(hc:o.isCells=false):KC n₀ W (W.putObj l o') :=
 ⟨⟨rfl,rfl,rfl,by simp,fun k hk=>World.putObj_heap_other (fun e=>oz)⟩,fun k x hk hx=>(World.putObj_heap_other (fun e=>by subst e;rw[h] at hk;injection hk with hk;subst hk;rw[hc] at hx;cases hx)).trans hk⟩
theorem KC.of_below{n₀:Nat}{A W W':World}(h:KC n₀ A W)(hb:Below W.heap.size W W')(hn:n₀≤W.heap.size):KC n₀ A W' :=
 h.trans ⟨hb.mono hn,fun k o hk _=>(hb.block k (lt_of_block hk)).trans hk⟩
theorem JM{β:Type}{B:Nat}{J:β→World→Prop}(h:AbidesFrom B J){s:β}{W:World}(hs:J s W)(o:Obj):J s (W.alloc o) :=
 h s W _ none hs (World.grownBy_alloc W o none) (fun r e=>by cases e)
end Go.Proofs.YtgigilkpndhddaaGreatDoor.syn
namespace Go.Proofs.YtgigilkpndhddaaGreatDoor.index
open Tryz
open Go.RowKit Go.Shelf clock syn
attribute [local go_sem] Oper.semAt_some
structure KB (n₀ Bs:Nat) (W W':World):Prop where
 below:Below n₀ W W'
 box:∀(o:Obj),W.heap[Bs]?=some o→o.isCells=true→W'.heap[Bs]?=some o
theorem KB.refl(n₀ Bs:Nat)(W:World):KB n₀ Bs W W:=⟨Below.refl _ _,fun _ h _=>h⟩
theorem KB.trans{n₀ Bs:Nat}{A B C:World}(h:KB n₀ Bs A B)(k:KB n₀ Bs B C):KB n₀ Bs A C:=⟨h.below.trans k.below,fun o ho hc=>k.box o (h.box o ho hc) hc⟩
theorem KB.alloc{n₀ Bs:Nat}{A W:World}(h:KB n₀ Bs A W)(hn:n₀≤W.heap.size)(o:Obj):KB n₀ Bs A (W.alloc o) :=
 h.trans ⟨(Below.refl _ _).alloc hn _,fun x hk _=>(Below.heap_alloc W o Bs (Array.getElem?_eq_some_iff.1 hk).1).trans hk⟩
theorem KB.putObj{n₀ Bs:Nat}(W:World)(l:Nat)(o o':Obj)(hl:n₀≤l)(h:W.heap[l]?=some o)(hc:o.isCells=false):KB n₀ Bs W (W.putObj l o') :=
 ⟨⟨rfl,rfl,rfl,by simp,fun k hk=>World.putObj_heap_other (fun e=>oz)⟩,fun x hk hx=>(World.putObj_heap_other (fun e=>by subst e;rw[h] at hk;injection hk with hk;subst hk;rw[hc] at hx;cases hx)).trans hk⟩
theorem KB.of_below{n₀ Bs:Nat}{A W W':World}(h:KB n₀ Bs A W)(hb:Below W.heap.size W W')(hn:n₀≤W.heap.size):KB n₀ Bs A W' :=
 h.trans ⟨hb.mono hn,fun o hk _=>(hb.block Bs (lt_of_block hk)).trans hk⟩
theorem KB.setCell{n₀ Bs:Nat}{A W:World}(h:KB n₀ Bs A W){b:Nat}(hn:n₀≤b)(hne:Bs≠b)(v:Value):KB n₀ Bs A (W.setCell ⟨b,0,none⟩ v) :=
 h.trans ⟨(Below.refl _ _).setCell (p:=⟨b,0,none⟩) hn v,fun o hk _=>((grownBy_setCell' W b v).block Bs (lt_of_block hk) (by simp;exact hne)).trans hk⟩
structure BX (l:List Op3) where
 i:Int
 k:Int
 n:Int
 d:Int
 mem:(k,n,d)∈l
def BX.o{l:List Op3}(x:BX l):Op3:=(x.k,x.n,x.d)
def BX.vs{l:List Op3}(x:BX l):Array Value:=#[.int .i64 x.i,.agg #[.int .i64 x.k,.int .i64 x.n,.int .i64 x.d]]
def ZfH(n₀ Bs:Nat)(l:List Op3)(J:List (BX l)→World→Prop)(W:World)(v:Value)(wr:World):Prop :=
 ∃(k:Nat)(ys:List (BX l)),v=.int .i64 ((k:Int)-1)∧k≤l.length∧ys.map (·.o)++(l.take k).reverse=l.reverse∧J ys wr∧KB n₀ Bs W wr
theorem ZcV{l:List Op3}{j:Nat}(h:j<l.length):(l.take (j+1)).reverse=l.getD j (0,0,0)::(l.take j).reverse:=by
 rw[List.take_succ_eq_append_getElem h,List.reverse_append,←plain.getD_lt (0,0,0) h];rfl
theorem yH{W0:World}(F:Fence)(hd:F.depth=none)(hG:F.fn 165)(ac:F.round=none)(n l B Bs:Nat)(ops:List Op3)(a:Option Addr)(cap:Nat)
  (ae:ops.length≤9223372036854775807)(hA:OpA W0 a ops)(J Jx:List (BX ops)→World→Prop)(hJ:AbidesFrom B J)
  (hY:∀m pre x W,J pre W→pre.length<ops.length→YieldAt F m prog l x.vs W fun e W'=>(e=.returned (.bool true)∧J (pre++[x]) W'∧KB W0.heap.size Bs W W')∨(e=.returned (.bool false)∧Jx (pre++[x]) W'))
  (W:World)(hB:Below W0.heap.size W0 W)(D:Boxed W Bs 67 (.slice a ops.length cap))(h0:J [] W) :
  CallsIn F n prog 165 #[.func (.yield l) #[] #[],.pointer (some ⟨Bs,0,none⟩)] W fun e W'=>(∃v,e=.returned v) ∧
   ((∃xs:List (BX ops),xs.map (·.o)=ops.reverse∧J xs W')∨(∃pre:List (BX ops),pre.map (·.o) <+: ops.reverse∧Jx pre W')):=by
 have aj:∀k:Nat,(F.depth.isSome=true→1≤k):=fun k h=>by rw[hd] at h;cases h
 have HA:=Lib.hid hA;have HB:=Lib.hid hB;have V:=Lib.hid h0;have U:=Lib.hid D;have L:=D.cell;have af:=hB.size;have v0:IntKind.i64.wrap ((ops.length:Int)-1)=(ops.length:Int)-1:=IntWalk.i64_in _ oz;have HY:=Lib.hid hY;clear hA hB h0 D hY;refine callsIn_of_wp func165 rfl hG ?_ ac;simp only[ntmps165,List.size_toArray,List.length_cons,List.length_nil,Nat.reduceAdd,Nat.reduceSub,Array.replicate_succ,Array.replicate_zero,List.push_toArray,List.append_toArray,List.nil_append,List.cons_append];gi_wp2;clear L;gi_loopw [3] (fun v wr=>Hid (ZfH W0.heap.size Bs ops J W v wr)) (fun i _=>(intOf i+1).toNat)
 case atStart=>exact⟨ops.length,[],by first|rfl|(rw[v0])|(go_num;rw[v0]),Yq _,by simp,V.out,KB.refl _ _ _⟩
 obtain⟨k,O,hv,hk,f,T,q⟩:=hrel.out;clear hrel;have g:Below W0.heap.size W0 wr:=HB.out.trans q.below;have HBW:=Lib.hid g;have HK:=Lib.hid q;have Z:=Lib.hid T;have ag:=g.size;have L:wr.cell? ⟨Bs,0,none⟩=some (.slice a ops.length cap):=Boxed.cell (t:=67) (q.box _ U.out rfl)
 cases k with
 | zero =>
  obtain rfl:=hv;have R:((0:Nat):Int)-1=-1:=rfl;have z:=Lib.hid (show O.map (·.o)=ops.reverse by simpa using f);clear g q T f
  try rw[R]
  gi_wp2;go_end0;exact⟨⟨_,rfl⟩,.inl ⟨O,z.out,Z.out⟩⟩
 | succ j =>
  have R:((j+1:Nat):Int)-1=(j:Int):=oz;rw[R] at hv;obtain rfl:=hv;clear R;have A:j<ops.length:=oz;obtain⟨b,off,rfl,ai,c0,c1,c2⟩:=(HA.out.below g (Yq _)) j A;have y:ops.getD j (0,0,0)∈ops:=by rw[plain.getD_lt _ A];exact List.getElem_mem A
  rw[ZcV A] at f;obtain⟨o,ho⟩:∃o,ops.getD j (0,0,0)=o:=⟨_,rfl⟩;rw[ho] at c0 c1 c2 f y;clear ho;obtain⟨ok,on,od⟩:=o;simp only at c0 c1 c2;have C:=congrArg List.length f;simp only[List.length_append,List.length_map,List.length_cons,List.length_reverse] at C;obtain⟨X,H,I⟩:∃X:BX ops,X.vs=#[.int .i64 (j:Int),.agg #[.int .i64 ok,.int .i64 on,.int .i64 od]]∧X.o=(ok,on,od):=⟨⟨j,ok,on,od,y⟩,rfl,rfl⟩;obtain⟨fn,ah,assign,body,hy,hR⟩:=HY.out (n-1) O X wr T oz;rw[H] at hy;have HR:=Lib.hid hR;have E:=Lib.hid I;have z:=Lib.hid f;clear g q T f hR H I C y;gi_wp2;refine HR.out.mono ?_;rintro e W1 (⟨rfl,G,M⟩|⟨rfl,ab⟩)
  ·have Y:=Lib.hid G;have aa:=Lib.hid (HK.out.trans M);clear G M;gi_wp2;go_roundw
   case rel=>exact⟨j,O++[X],by go_num,oz,by rw[List.map_append,←z.out];simp[E.out],Y.out,aa.out⟩
   first|(simp[intOf];done)|(simp[intOf];omega)
  gi_wp2;refine bodyPost_ret (results_none rfl _ _ _) rfl ?_;refine⟨⟨_,rfl⟩,.inr ⟨O++[X],?_,ab⟩⟩;refine⟨(ops.take j).reverse,?_⟩;rw[List.map_append,←z.out];simp[E.out]
theorem Ea{W0:World}(F:Fence)(hd:F.depth=none)(hG:F.fn 165)(hro:F.round=none)(n Bs:Nat)(ops:List Op3)(a:Option Addr)(cap:Nat)
  (hlen:ops.length≤9223372036854775807)(hA:OpA W0 a ops)(w:World)(hB:Below W0.heap.size W0 w)(hbx:Boxed w Bs 67 (.slice a ops.length cap)) :
  SeqStopsK F n prog 165 #[.pointer (some ⟨Bs,0,none⟩)] (fun x:BX ops=>x.vs) (KB W0.heap.size Bs) (fun xs=>xs.map (·.o)=ops.reverse) (fun pre=>pre.map (·.o) <+: ops.reverse) ops.length w:=fun l J Jx W hW hJ hJx hY h0 =>
 yH F hd hG hro n l W.heap.size Bs ops a cap hlen hA J Jx hJ (fun m pre x W hj hl=>YieldAt.deep hd m (hY pre x W hj hl)) W (hB.trans (hW.mono hB.size)) ((hW.block Bs hbx.lt).trans hbx) h0
theorem yI{w:World}(a:Option Addr)(n c:Nat):Calls prog 141 #[.slice a n c] w fun e w'=>e=.returned (.func (.func 165) #[] #[.pointer (some ⟨w.heap.size,0,none⟩)])∧w'=w.alloc (.cells #[.slice a n c] 67):=by
 go_enter func141,ntmps141;go_wp2;go_ret;exact⟨rfl,rfl⟩
end Go.Proofs.YtgigilkpndhddaaGreatDoor.index
namespace Go.Proofs.YtgigilkpndhddaaGreatDoor.lite
open Tryz
open Go.RowKit
theorem Y2{B:Nat}{a w:World}(h:Below B a w){b o:Nat}(hp:B≤b)(u:Value):Below B a (w.setCell ⟨b,o,none⟩ u):=h.setCell (p:=⟨b,o,none⟩) hp u
theorem below_drewN{B:Nat}{a w:World}(h:Below B a w)(n:Nat):Below B a (w.drewN n):=⟨h.os,h.tape,h.output,h.size,h.block⟩
theorem YC{W w1:World}(hb:Below W.heap.size W w1):(∀b o,b<W.heap.size→w1.cell? ⟨b,o,none⟩=W.cell? ⟨b,o,none⟩)∧(∀b o,b<W.heap.size→w1.frozen? ⟨b,o,none⟩=W.frozen? ⟨b,o,none⟩) :=
 ⟨fun b o h=>hb.cell (p:=⟨b,o,none⟩) h,fun b o h=>hb.frozen (p:=⟨b,o,none⟩) h⟩
theorem Yw(w:World)(o:Obj):(w.alloc o).heap[w.heap.size]?=some o:=by
 show(w.heap.push o)[w.heap.size]?=_;simp
end Go.Proofs.YtgigilkpndhddaaGreatDoor.lite
