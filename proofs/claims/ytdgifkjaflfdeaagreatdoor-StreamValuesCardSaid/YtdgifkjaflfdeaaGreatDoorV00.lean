/- Parts of the proof. -/
import Derived.BigQuiet
import Derived.Handy
import Derived.Lib.Hide
import Derived.Test.YtdgifkjaflfdeaaGreatDoorChecked
namespace Go.Proofs.YtdgifkjaflfdeaaGreatDoor
theorem oz {p : Prop} (h : p := by first | omega | (simp; done) | (simp; omega)) : p := h
theorem kz {p : Prop} (h : p := by kernel_rfl) : p := h
theorem Yo:type_of% @Nat.le_refl:=@Nat.le_refl
theorem Yp:type_of% @Nat.lt_of_lt_of_le:=@Nat.lt_of_lt_of_le
theorem Yq:type_of% @Array.getElem?_eq_some_iff:=@Array.getElem?_eq_some_iff
theorem Yr:type_of% @beq_eq_false_iff_ne:=@beq_eq_false_iff_ne
theorem Ys:type_of% @decide_eq_false:=@decide_eq_false
theorem Yt:type_of% @decide_eq_true:=@decide_eq_true
theorem Yu:type_of% @if_neg:=@if_neg
theorem Yv:type_of% @if_pos:=@if_pos
end Go.Proofs.YtdgifkjaflfdeaaGreatDoor
set_option linter.all false
set_option maxRecDepth 100000
set_option maxHeartbeats 16000000
namespace Go.Proofs.YtdgifkjaflfdeaaGreatDoor.plain
open Tryz
open Go.RowKit (wrap64)
theorem xu(n d:Int)(hd:1≤d):n.tdiv d=if n.tmod d<0 then n/d+1 else n/d:=by
 have j:=Int.mul_tdiv_add_tmod n d;have m:=Int.mul_ediv_add_emod n d;have x:=Int.emod_nonneg n (show d≠0 by omega);have v:=Int.emod_lt_of_pos n (show 0<d by omega);have q:=Int.tmod_lt_of_pos n (show 0<d by omega);have hb:-d<n.tmod d:=by
  have:=Int.lt_tmod_of_pos n (show 0<d by omega);omega
 split
 ·rename_i h
  have g:d*(n.tdiv d-(n/d+1))=n%d-n.tmod d-d:=by rw[Int.mul_sub,Int.mul_add];omega
  have:n.tdiv d-(n/d+1)=0:=by
   apply Classical.byContradiction;intro f;rcases Int.lt_or_gt_of_ne f with h1|h1
   ·have:d*(n.tdiv d-(n/d+1))≤d*(-1):=Int.mul_le_mul_of_nonneg_left oz oz;omega
   have:d*1≤d*(n.tdiv d-(n/d+1)):=Int.mul_le_mul_of_nonneg_left oz oz;omega
  omega
 rename_i h
 have g:d*(n.tdiv d-n/d)=n%d-n.tmod d:=by rw[Int.mul_sub];omega
 have:n.tdiv d-n/d=0:=by
  apply Classical.byContradiction;intro f;rcases Int.lt_or_gt_of_ne f with h1|h1
  ·have:d*(n.tdiv d-n/d)≤d*(-1):=Int.mul_le_mul_of_nonneg_left oz oz;omega
  have:d*1≤d*(n.tdiv d-n/d):=Int.mul_le_mul_of_nonneg_left oz oz;omega
 omega
theorem gY(n d:Int)(hd:1≤d):n.tmod d=if n.tmod d<0 then n%d-d else n%d:=by
 have g:=Int.mul_tdiv_add_tmod n d;have j:=Int.mul_ediv_add_emod n d;have f:=xu n d hd;by_cases h:n.tmod d<0
 ·rw[Yv h] at f ⊢;rw[f,Int.mul_add] at g;omega
 rw[Yu h] at f ⊢;rw[f] at g;omega
theorem yN(n d:Int)(hd:1≤d):(0≤n→0≤n/d∧n/d≤n)∧(n<0→n≤n/d∧n/d<0):=by
 constructor
 ·intro h;exact⟨Int.ediv_nonneg h oz,Int.ediv_le_self _ h⟩
 intro h;refine⟨?_,Int.ediv_neg_of_neg_of_pos h oz⟩;rw[Int.le_ediv_iff_mul_le oz];have:n*d≤n*1:=Int.mul_le_mul_of_nonpos_left oz oz;omega
theorem Zag(n d:Int)(hd:1≤d)(g:-9223372036854775808≤n)(j:n≤9223372036854775807)(m:d≤9223372036854775807)(h:n.tmod d<0) :
  wrap64 (n.tdiv d-1)=n/d∧wrap64 (n.tmod d+d)=n%d:=by
 have a:=xu n d hd;have b:=gY n d hd;have c:=yN n d hd;have v:=Int.emod_nonneg n (show d≠0 by omega);have q:=Int.emod_lt_of_pos n (show 0<d by omega);rw[Yv h] at a b;rw[a,b];by_cases f:0≤n
 ·have:=c.1 f;constructor<;>(refine Eq.trans (IntWalk.wrap64_in _ oz) oz)
 have:=c.2 oz;constructor<;>(refine Eq.trans (IntWalk.wrap64_in _ oz) oz)
theorem yQ(n d:Int)(hd:1≤d)(h:0≤n.tmod d):n.tdiv d=n/d∧n.tmod d=n%d:=by
 have a:=xu n d hd;have b:=gY n d hd;rw[Yu oz] at a b;exact⟨a,b⟩
def sz(a:Int):Int:=(a.natAbs:Int)
theorem Zf2{a:Int}(h:¬a=0):1≤sz a:=by unfold sz;omega
theorem Ze1{a:Int}(f:-9223372036854775808≤a)(g:a≤9223372036854775807):sz a≤9223372036854775808:=by unfold sz;omega
theorem E3{a:Int}(h:a<0):sz a=-a:=by unfold sz;omega
theorem JY{a:Int}(h:0≤a):sz a=a:=by unfold sz;omega
theorem getD_lt{α:Type}{l:List α}{k:Nat}(d:α)(h:k<l.length):l.getD k d=l[k]:=by
 rw[List.getD_eq_getElem?_getD,List.getElem?_eq_getElem h,Option.getD_some]
end Go.Proofs.YtdgifkjaflfdeaaGreatDoor.plain
namespace Go.Proofs.YtdgifkjaflfdeaaGreatDoor.arith
open Tryz
open Go.RowKit
theorem Jn{a b c d:Int}(h:a=b)(f:c=d):Ending.returned (.tuple #[.int .i64 a,.int .i64 c])=.returned (.tuple #[.int .i64 b,.int .i64 d]):=by rw[h,f]
theorem Zah(n d:Int)(w:World)(hd:1≤d)(g:-9223372036854775808≤n)(j:n≤9223372036854775807)(q:d≤9223372036854775807) :
  Calls prog 256 #[.int .i64 n,.int .i64 d] w fun e w'=>e=.returned (.tuple #[.int .i64 (n/d),.int .i64 (n%d)])∧∃m,w'=w.drewN m:=by
 go_enter func256,ntmps256;go_wp2;go_quiet (fail);go_wp2
 all_goals go_ret2
 ·have f:n.tmod d<0:=by assumption
  have H:=plain.Zag n d hd g j q f;exact⟨Jn H.1 H.2,_,rfl⟩
 have f:0≤n.tmod d:=by assumption
 have H:=plain.yQ n d hd f;exact⟨Jn H.1 H.2,_,rfl⟩
theorem below_drewN{B:Nat}{a w:World}(h:Below B a w)(n:Nat):Below B a (w.drewN n):=⟨h.os,h.tape,h.output,h.size,h.block⟩
theorem YB{W w1:World}(hb:Below W.heap.size W w1):(∀b o,b<W.heap.size→w1.cell? ⟨b,o,none⟩=W.cell? ⟨b,o,none⟩)∧(∀b o,b<W.heap.size→w1.frozen? ⟨b,o,none⟩=W.frozen? ⟨b,o,none⟩) :=
 ⟨fun b o h=>hb.cell (p:=⟨b,o,none⟩) h,fun b o h=>hb.frozen (p:=⟨b,o,none⟩) h⟩
theorem Zcn{a b:Int}(f:1≤a)(hb:1≤b):1≤a*b:=by
 have:=Int.mul_le_mul f hb oz oz;omega
end Go.Proofs.YtdgifkjaflfdeaaGreatDoor.arith
namespace Go.Proofs.YtdgifkjaflfdeaaGreatDoor.clock
open Tryz
open Go.RowKit
def kB(n a b:Int):Bool:=decide (a≤n∧n≤b)
theorem GH{n a b:Int}(f:a≤n)(g:n≤b):kB n a b=true:=by unfold kB;simp;omega
theorem za{n a b:Int}(h:n<a∨b<n):kB n a b=false:=by unfold kB;simp;omega
theorem X4{a b:Bool}(h:a=b):Ending.returned (.bool a)=.returned (.bool b):=by rw[h]
theorem Ql(n a b:Int)(w:World) :
  Calls prog 86 #[.int .i64 n,.int .i64 a,.int .i64 b] w fun e w'=>e=.returned (.bool (kB n a b))∧w=w':=by
 by_cases f:a≤n
 ·by_cases g:n≤b
  ·have E:=Lib.hid (GH f g);go_enter func86,ntmps86;go_wp2;go_ret;exact⟨X4 (by rw[E.out];try (simp;omega)),rfl⟩
  have E:=Lib.hid (za (n:=n) (a:=a) (b:=b) oz);have m:b<n:=oz;clear g;go_enter func86,ntmps86;go_wp2;go_ret;exact⟨X4 (by rw[E.out];try (simp;omega)),rfl⟩
 have E:=Lib.hid (za (n:=n) (a:=a) (b:=b) oz);have j:n<a:=oz;clear f;go_enter func86,ntmps86;go_wp2;go_ret;exact⟨X4 (by rw[E.out];try (simp;omega)),rfl⟩
theorem Vk(n a b:Int)(w:World)(f:a≤n)(g:n≤b) :
  Calls prog 86 #[.int .i64 n,.int .i64 a,.int .i64 b] w fun e w'=>e=.returned (.bool true)∧w=w':=by
 have H:=Ql n a b w;rwa [GH f g] at H
theorem Ua(n a b:Int)(w:World)(h:n<a∨b<n) :
  Calls prog 86 #[.int .i64 n,.int .i64 a,.int .i64 b] w fun e w'=>e=.returned (.bool false)∧w=w':=by
 have H:=Ql n a b w;rwa [za h] at H
def YD(p f:Int):Bool:=decide (1≤p∧p≤2000∧0≤f∧f≤2000)
theorem X7{p f:Int}(h:1≤p∧p≤2000∧0≤f∧f≤2000):YD p f=true:=by unfold YD;simp;omega
theorem VI{p f:Int}(h:¬(1≤p∧p≤2000∧0≤f∧f≤2000)):YD p f=false:=by unfold YD;simp;omega
theorem XO{p f:Int}:YD p f=true↔(1≤p∧p≤2000∧0≤f∧f≤2000):=by unfold YD;simp
theorem Xp(p f:Int)(w:World)(h:1≤p∧p≤2000∧0≤f∧f≤2000) :
  Calls prog 41 #[.agg #[.int .i64 p,.int .i64 f]] w fun e w'=>e=.returned (.bool true)∧Below w.heap.size w w':=by
 go_enter func41,ntmps41;go_wp2_with (first|(go_at_call 86;refine(Vk _ _ _ _ oz oz).mono ?_;rintro e w' ⟨rfl,rfl⟩));go_ret;exact⟨rfl,(Below.refl _ _).alloc (Yo _) _⟩
theorem Qr(p f:Int)(w:World)(h:¬(1≤p∧p≤2000∧0≤f∧f≤2000)) :
  Calls prog 41 #[.agg #[.int .i64 p,.int .i64 f]] w fun e w'=>e=.returned (.bool false)∧Below w.heap.size w w':=by
 by_cases q:1≤p∧p≤2000
 ·have m:f<0∨2000<f:=oz;clear h;have g:=Lib.hid (fun w=>Ua f 0 2000 w m);go_enter func41,ntmps41;go_wp2_with (first|(go_at_call 86;with_reducible refine(g.out _).mono ?_;rintro e w' ⟨rfl,rfl⟩)|(go_at_call 86;refine(Vk _ _ _ _ oz oz).mono ?_;rintro e w' ⟨rfl,rfl⟩));go_ret;exact⟨rfl,(Below.refl _ _).alloc (Yo _) _⟩
 have j:p<1∨2000<p:=oz;clear h q;have g:=Lib.hid (fun w=>Ua p 1 2000 w j);go_enter func41,ntmps41;go_wp2_with (go_at_call 86;refine(g.out _).mono ?_;rintro e w' ⟨rfl,rfl⟩);go_ret;exact⟨rfl,(Below.refl _ _).alloc (Yo _) _⟩
theorem X6(p f:Int)(w:World) :
  Calls prog 41 #[.agg #[.int .i64 p,.int .i64 f]] w fun e w'=>e=.returned (.bool (YD p f))∧Below w.heap.size w w':=by
 by_cases h:1≤p∧p≤2000∧0≤f∧f≤2000
 ·rw[X7 h];exact Xp p f w h
 rw[VI h];exact Qr p f w h
theorem Zby(p f n:Int)(w:World)(h:1≤p∧p≤2000∧0≤f∧f≤2000)(j:0≤n)(m:n≤1099511627776) :
  Calls prog 33 #[.agg #[.int .i64 p,.int .i64 f],.int .i64 n] w fun e w'=>e=.returned (.int .i64 (f+n*p))∧Below w.heap.size w w':=by
 have x:0≤n*p:=Int.mul_nonneg j oz;have y:n*p≤1099511627776*2000:=Int.mul_le_mul m oz oz oz;have z:wrap64 (n*p)=n*p:=IntWalk.wrap64_in _ oz;have g:=Lib.hid (fun w=>Xp p f w h);go_enter func33,ntmps33;go_wp2_with (first|(go_at_call 41;refine(g.out _).mono ?_;rintro e A ⟨rfl,hb⟩;obtain⟨q,v⟩:=arith.YB hb)|(go_at_call 86;refine(Vk _ _ _ _ oz oz).mono ?_;rintro e w' ⟨rfl,rfl⟩));go_ret;exact⟨rfl,((Below.refl _ _).alloc (Yo _) _).trans (hb.mono (by simp))⟩
theorem ZdR(p f n:Int)(w:World)(h:¬((1≤p∧p≤2000∧0≤f∧f≤2000)∧0≤n∧n≤1099511627776)) :
  Calls prog 33 #[.agg #[.int .i64 p,.int .i64 f],.int .i64 n] w fun e w'=>e=.returned (.int .i64 0)∧Below w.heap.size w w':=by
 by_cases g:1≤p∧p≤2000∧0≤f∧f≤2000
 ·have m:n<0∨1099511627776<n:=oz;have j:=Lib.hid (fun w=>Xp p f w g);have q:=Lib.hid (fun w=>Ua n 0 1099511627776 w m);clear h g m;go_enter func33,ntmps33;go_wp2_with (first|(go_at_call 41;refine(j.out _).mono ?_;rintro e y ⟨rfl,hb⟩;obtain⟨v,x⟩:=arith.YB hb)|(go_at_call 86;refine(q.out _).mono ?_;rintro e w' ⟨rfl,rfl⟩));go_ret;exact⟨rfl,((Below.refl _ _).alloc (Yo _) _).trans (hb.mono (by simp))⟩
 have j:=Lib.hid (fun w=>Qr p f w g);clear h g;go_enter func33,ntmps33;go_wp2_with (first|(go_at_call 41;refine(j.out _).mono ?_;rintro e y ⟨rfl,hb⟩;obtain⟨v,x⟩:=arith.YB hb));go_ret;exact⟨rfl,((Below.refl _ _).alloc (Yo _) _).trans (hb.mono (by simp))⟩
end Go.Proofs.YtdgifkjaflfdeaaGreatDoor.clock
namespace Go.Proofs.YtdgifkjaflfdeaaGreatDoor.arith
open Tryz
open Go.RowKit
def ZgL(a b:Int):Int:=((Nat.gcd a.toNat b.toNat:Nat):Int)
def vg(w:World)(v:Value)(l:List Int):Prop :=
 (∃a cap,v=.slice a 0 cap∧l=[])∨∃b off cap,v=.slice (some ⟨b,off,none⟩) l.length cap∧∀k,k<l.length→w.cell? ⟨b,off+k,none⟩=some (.int .i64 (l.getD k 0))
theorem EL{c x:Int}(hc:1≤c):c/ZgL c x≤c:=Int.ediv_le_self _ oz
theorem vg.below{w w1:World}{v:Value}{l:List Int}(h:vg w v l)(hb:Below w.heap.size w w1):vg w1 v l:=by
 rcases h with ⟨a,cap,h1,h2⟩|⟨b,off,cap,h1,h2⟩
 ·exact .inl ⟨a,cap,h1,h2⟩
 refine .inr ⟨b,off,cap,h1,fun k hk=>?_⟩;have f:=h2 k hk;rw[hb.cell (p:=⟨b,off+k,none⟩) (block_lt_of_cell f),f]
end Go.Proofs.YtdgifkjaflfdeaaGreatDoor.arith
