/- Parts of the proof. -/
import Derived.BigQuiet
import Derived.Handy
import Derived.Lib.Hide
import Derived.Test.YtlhlcdjiafdoeaaGreatDoorChecked
namespace Go.Proofs.YtlhlcdjiafdoeaaGreatDoor
theorem oz {p : Prop} (h : p := by first | omega | (simp; done) | (simp; omega)) : p := h
theorem kz {p : Prop} (h : p := by kernel_rfl) : p := h
theorem Yn:type_of% @Nat.le_refl:=@Nat.le_refl
theorem Yo:type_of% @Nat.lt_of_lt_of_le:=@Nat.lt_of_lt_of_le
theorem Yp:type_of% @beq_eq_false_iff_ne:=@beq_eq_false_iff_ne
theorem Yq:type_of% @decide_eq_false:=@decide_eq_false
theorem Yr:type_of% @if_neg:=@if_neg
theorem Ys:type_of% @if_pos:=@if_pos
end Go.Proofs.YtlhlcdjiafdoeaaGreatDoor
set_option linter.all false
set_option maxRecDepth 100000
set_option maxHeartbeats 16000000
namespace Go.Proofs.YtlhlcdjiafdoeaaGreatDoor.plain
open Go.RowKit (wrap64)
theorem zl (n d:Int) (hd:1≤d):n.tdiv d=if n.tmod d<0 then n/d+1 else n/d:=by
 have e1:=Int.mul_tdiv_add_tmod n d
 have e2:=Int.mul_ediv_add_emod n d
 have hm:=Int.emod_nonneg n (show d≠0 by omega)
 have hl:=Int.emod_lt_of_pos n (show 0<d by omega)
 have ha:=Int.tmod_lt_of_pos n (show 0<d by omega)
 have hb:-d<n.tmod d:=by
  have:=Int.lt_tmod_of_pos n (show 0<d by omega)
  omega
 split
 ·rename_i h
  have e3:d*(n.tdiv d-(n/d+1))=n%d-n.tmod d-d:=by rw[Int.mul_sub,Int.mul_add];omega
  have:n.tdiv d-(n/d+1)=0:=by
   apply Classical.byContradiction;intro hne
   rcases Int.lt_or_gt_of_ne hne with h1|h1
   ·have:d*(n.tdiv d-(n/d+1))≤d*(-1):=Int.mul_le_mul_of_nonneg_left oz oz
    omega
   have:d*1≤d*(n.tdiv d-(n/d+1)):=Int.mul_le_mul_of_nonneg_left oz oz
   omega
  omega
 rename_i h
 have e3:d*(n.tdiv d-n/d)=n%d-n.tmod d:=by rw[Int.mul_sub];omega
 have:n.tdiv d-n/d=0:=by
  apply Classical.byContradiction;intro hne
  rcases Int.lt_or_gt_of_ne hne with h1|h1
  ·have:d*(n.tdiv d-n/d)≤d*(-1):=Int.mul_le_mul_of_nonneg_left oz oz
   omega
  have:d*1≤d*(n.tdiv d-n/d):=Int.mul_le_mul_of_nonneg_left oz oz
  omega
 omega
theorem jN (n d:Int) (hd:1≤d):n.tmod d=if n.tmod d<0 then n%d-d else n%d:=by
 have e1:=Int.mul_tdiv_add_tmod n d
 have e2:=Int.mul_ediv_add_emod n d
 have e3:=zl n d hd
 by_cases h:n.tmod d<0
 ·rw[Ys h] at e3 ⊢
  rw[e3,Int.mul_add] at e1;omega
 rw[Yr h] at e3 ⊢
 rw[e3] at e1;omega
theorem ER (n d:Int) (hd:1≤d):(0≤n→0≤n/d∧n/d≤n)∧(n<0→n≤n/d∧n/d<0):=by
 constructor
 ·intro h;exact⟨Int.ediv_nonneg h oz,Int.ediv_le_self _ h⟩
 intro h
 refine⟨?_,Int.ediv_neg_of_neg_of_pos h oz⟩
 rw[Int.le_ediv_iff_mul_le oz]
 have:n*d≤n*1:=Int.mul_le_mul_of_nonpos_left oz oz
 omega
theorem vw (n d:Int) (hd:1≤d) (h1:-9223372036854775808≤n) (h2:n≤9223372036854775807) (h3:d≤9223372036854775807) (h:n.tmod d<0) :
  wrap64 (n.tdiv d-1)=n/d∧wrap64 (n.tmod d+d)=n%d:=by
 have a:=zl n d hd
 have b:=jN n d hd
 have c:=ER n d hd
 have hm:=Int.emod_nonneg n (show d≠0 by omega)
 have hl:=Int.emod_lt_of_pos n (show 0<d by omega)
 rw[Ys h] at a b
 rw[a,b]
 by_cases h0:0≤n
 ·have:=c.1 h0;constructor<;>(refine Eq.trans (IntWalk.wrap64_in _ oz) oz)
 have:=c.2 oz;constructor<;>(refine Eq.trans (IntWalk.wrap64_in _ oz) oz)
theorem EX (n d:Int) (hd:1≤d) (h:0≤n.tmod d):n.tdiv d=n/d∧n.tmod d=n%d:=by
 have a:=zl n d hd
 have b:=jN n d hd
 rw[Yr oz] at a b
 exact⟨a,b⟩
def sz (a:Int):Int:=(a.natAbs:Int)
theorem ZbU {a:Int} (h:a<0):sz a=-a:=by unfold sz;omega
theorem un {a:Int} (h:0≤a):sz a=a:=by unfold sz;omega
theorem getD_lt {α:Type} {l:List α} {k:Nat} (d:α) (h:k<l.length):l.getD k d=l[k]:=by
 rw[List.getD_eq_getElem?_getD,List.getElem?_eq_getElem h,Option.getD_some]
end Go.Proofs.YtlhlcdjiafdoeaaGreatDoor.plain
namespace Go.Proofs.YtlhlcdjiafdoeaaGreatDoor.arith
open Go.RowKit
theorem Gd {a b c d:Int} (h:a=b) (h':c=d):Ending.returned (.tuple #[.int .i64 a,.int .i64 c])=.returned (.tuple #[.int .i64 b,.int .i64 d]):=by rw[h,h']
theorem vx (n d:Int) (w:World) (hd:1≤d) (h1:-9223372036854775808≤n) (h2:n≤9223372036854775807) (h3:d≤9223372036854775807) :
  Calls Tryz.prog 165 #[.int .i64 n,.int .i64 d] w fun e w'=>e=.returned (.tuple #[.int .i64 (n/d),.int .i64 (n%d)])∧∃m,w'=w.drewN m:=by
 go_enter Tryz.func165,Tryz.ntmps165
 go_wp2
 go_quiet (fail)
 go_wp2
 all_goals go_ret2
 ·have hm:n.tmod d<0:=by assumption
  have H:=plain.vw n d hd h1 h2 h3 hm
  exact⟨Gd H.1 H.2,_,rfl⟩
 have hm:0≤n.tmod d:=by assumption
 have H:=plain.EX n d hd hm
 exact⟨Gd H.1 H.2,_,rfl⟩
theorem below_drewN {B:Nat} {a w:World} (h:Below B a w) (n:Nat):Below B a (w.drewN n):=⟨h.os,h.tape,h.output,h.size,h.block⟩
theorem Yx {W w1:World} (hb:Below W.heap.size W w1):(∀b o,b<W.heap.size→w1.cell? ⟨b,o,none⟩=W.cell? ⟨b,o,none⟩)∧(∀b o,b<W.heap.size→w1.frozen? ⟨b,o,none⟩=W.frozen? ⟨b,o,none⟩) :=
 ⟨fun b o h=>hb.cell (p:=⟨b,o,none⟩) h,fun b o h=>hb.frozen (p:=⟨b,o,none⟩) h⟩
theorem kU {a b:Int} (ha:1≤a) (hb:1≤b):1≤a*b:=by
 have:=Int.mul_le_mul ha hb oz oz;omega
end Go.Proofs.YtlhlcdjiafdoeaaGreatDoor.arith
namespace Go.Proofs.YtlhlcdjiafdoeaaGreatDoor.clock
open Go.RowKit
def qY (n a b:Int):Bool:=decide (a≤n∧n≤b)
theorem Kg {n a b:Int} (h1:a≤n) (h2:n≤b):qY n a b=true:=by unfold qY;simp;omega
theorem Gz {n a b:Int} (h:n<a∨b<n):qY n a b=false:=by unfold qY;simp;omega
theorem XH {a b:Bool} (h:a=b):Ending.returned (.bool a)=.returned (.bool b):=by rw[h]
theorem X0 (n a b:Int) (w:World) :
  Calls Tryz.prog 53 #[.int .i64 n,.int .i64 a,.int .i64 b] w fun e w'=>e=.returned (.bool (qY n a b))∧w=w':=by
 by_cases h1:a≤n
 ·by_cases h2:n≤b
  ·have E:=Lib.hid (Kg h1 h2)
   go_enter Tryz.func53,Tryz.ntmps53
   go_wp2
   go_ret
   exact⟨XH (by rw[E.out];try (simp;omega)),rfl⟩
  have E:=Lib.hid (Gz (n:=n) (a:=a) (b:=b) oz)
  have h2':b<n:=oz
  clear h2
  go_enter Tryz.func53,Tryz.ntmps53
  go_wp2
  go_ret
  exact⟨XH (by rw[E.out];try (simp;omega)),rfl⟩
 have E:=Lib.hid (Gz (n:=n) (a:=a) (b:=b) oz)
 have h1':n<a:=oz
 clear h1
 go_enter Tryz.func53,Tryz.ntmps53
 go_wp2
 go_ret
 exact⟨XH (by rw[E.out];try (simp;omega)),rfl⟩
theorem JD (n a b:Int) (w:World) (h1:a≤n) (h2:n≤b) :
  Calls Tryz.prog 53 #[.int .i64 n,.int .i64 a,.int .i64 b] w fun e w'=>e=.returned (.bool true)∧w=w':=by
 have H:=X0 n a b w;rwa [Kg h1 h2] at H
theorem Vf (n a b:Int) (w:World) (h:n<a∨b<n) :
  Calls Tryz.prog 53 #[.int .i64 n,.int .i64 a,.int .i64 b] w fun e w'=>e=.returned (.bool false)∧w=w':=by
 have H:=X0 n a b w;rwa [Gz h] at H
def YA (p f:Int):Bool:=decide (1≤p∧p≤2000∧0≤f∧f≤2000)
theorem XL {p f:Int} (h:1≤p∧p≤2000∧0≤f∧f≤2000):YA p f=true:=by unfold YA;simp;omega
theorem JX {p f:Int} (h:¬(1≤p∧p≤2000∧0≤f∧f≤2000)):YA p f=false:=by unfold YA;simp;omega
theorem XK {p f:Int}:YA p f=true↔(1≤p∧p≤2000∧0≤f∧f≤2000):=by unfold YA;simp
theorem Y7 (p f:Int) (w:World) (h:1≤p∧p≤2000∧0≤f∧f≤2000) :
  Calls Tryz.prog 28 #[.agg #[.int .i64 p,.int .i64 f]] w fun e w'=>e=.returned (.bool true)∧Below w.heap.size w w':=by
 go_enter Tryz.func28,Tryz.ntmps28
 go_wp2_with (first|(go_at_call 53;refine(JD _ _ _ _ oz oz).mono ?_;rintro e w' ⟨rfl,rfl⟩))
 go_ret
 exact⟨rfl,(Below.refl _ _).alloc (Yn _) _⟩
theorem X6 (p f:Int) (w:World) (h:¬(1≤p∧p≤2000∧0≤f∧f≤2000)) :
  Calls Tryz.prog 28 #[.agg #[.int .i64 p,.int .i64 f]] w fun e w'=>e=.returned (.bool false)∧Below w.heap.size w w':=by
 by_cases hp:1≤p∧p≤2000
 ·have hf:f<0∨2000<f:=oz
  clear h
  have HF:=Lib.hid (fun w=>Vf f 0 2000 w hf)
  go_enter Tryz.func28,Tryz.ntmps28
  go_wp2_with (first|(go_at_call 53;with_reducible refine(HF.out _).mono ?_;rintro e w' ⟨rfl,rfl⟩)|(go_at_call 53;refine(JD _ _ _ _ oz oz).mono ?_;rintro e w' ⟨rfl,rfl⟩))
  go_ret
  exact⟨rfl,(Below.refl _ _).alloc (Yn _) _⟩
 have hp':p<1∨2000<p:=oz
 clear h hp
 have HF:=Lib.hid (fun w=>Vf p 1 2000 w hp')
 go_enter Tryz.func28,Tryz.ntmps28
 go_wp2_with (go_at_call 53;refine(HF.out _).mono ?_;rintro e w' ⟨rfl,rfl⟩)
 go_ret
 exact⟨rfl,(Below.refl _ _).alloc (Yn _) _⟩
theorem XJ (p f:Int) (w:World) :
  Calls Tryz.prog 28 #[.agg #[.int .i64 p,.int .i64 f]] w fun e w'=>e=.returned (.bool (YA p f))∧Below w.heap.size w w':=by
 by_cases h:1≤p∧p≤2000∧0≤f∧f≤2000
 ·rw[XL h];exact Y7 p f w h
 rw[JX h];exact X6 p f w h
theorem uY (p f n:Int) (w:World) (h:1≤p∧p≤2000∧0≤f∧f≤2000) (h1:0≤n) (h2:n≤1099511627776) :
  Calls Tryz.prog 20 #[.agg #[.int .i64 p,.int .i64 f],.int .i64 n] w fun e w'=>e=.returned (.int .i64 (f+n*p))∧Below w.heap.size w w':=by
 have m1:0≤n*p:=Int.mul_nonneg h1 oz
 have m2:n*p≤1099511627776*2000:=Int.mul_le_mul h2 oz oz oz
 have v1:wrap64 (n*p)=n*p:=IntWalk.wrap64_in _ oz
 have HR:=Lib.hid (fun w=>Y7 p f w h)
 go_enter Tryz.func20,Tryz.ntmps20
 go_wp2_with (first|(go_at_call 28;refine(HR.out _).mono ?_;rintro e w1 ⟨rfl,hb⟩;obtain⟨hc,hf⟩:=arith.Yx hb)|(go_at_call 53;refine(JD _ _ _ _ oz oz).mono ?_;rintro e w' ⟨rfl,rfl⟩))
 go_ret
 exact⟨rfl,((Below.refl _ _).alloc (Yn _) _).trans (hb.mono (by simp))⟩
theorem eT (p f n:Int) (w:World) (h:¬((1≤p∧p≤2000∧0≤f∧f≤2000)∧0≤n∧n≤1099511627776)) :
  Calls Tryz.prog 20 #[.agg #[.int .i64 p,.int .i64 f],.int .i64 n] w fun e w'=>e=.returned (.int .i64 0)∧Below w.heap.size w w':=by
 by_cases hr:1≤p∧p≤2000∧0≤f∧f≤2000
 ·have hn:n<0∨1099511627776<n:=oz
  have HR:=Lib.hid (fun w=>Y7 p f w hr)
  have HN:=Lib.hid (fun w=>Vf n 0 1099511627776 w hn)
  clear h hr hn
  go_enter Tryz.func20,Tryz.ntmps20
  go_wp2_with (first|(go_at_call 28;refine(HR.out _).mono ?_;rintro e w1 ⟨rfl,hb⟩;obtain⟨hc,hf⟩:=arith.Yx hb)|(go_at_call 53;refine(HN.out _).mono ?_;rintro e w' ⟨rfl,rfl⟩))
  go_ret
  exact⟨rfl,((Below.refl _ _).alloc (Yn _) _).trans (hb.mono (by simp))⟩
 have HR:=Lib.hid (fun w=>X6 p f w hr)
 clear h hr
 go_enter Tryz.func20,Tryz.ntmps20
 go_wp2_with (first|(go_at_call 28;refine(HR.out _).mono ?_;rintro e w1 ⟨rfl,hb⟩;obtain⟨hc,hf⟩:=arith.Yx hb))
 go_ret
 exact⟨rfl,((Below.refl _ _).alloc (Yn _) _).trans (hb.mono (by simp))⟩
end Go.Proofs.YtlhlcdjiafdoeaaGreatDoor.clock
