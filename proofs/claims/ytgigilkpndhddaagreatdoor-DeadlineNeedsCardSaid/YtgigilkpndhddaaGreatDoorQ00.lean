/-
  Parts of the proof: Plain, Arith, NumA, Clock, Gcd, Num, Hyper, Apply.
-/
import Derived.Below
import Derived.BigQuiet
import Derived.Deep.QuietTactic
import Derived.Handy
import Derived.IntWalk
import Derived.Lib.Hide
import Derived.OpenShut
import Derived.ProofKit
import Derived.Test.YtgigilkpndhddaaGreatDoorChecked
import Derived.WalkKit
namespace Go.Proofs.YtgigilkpndhddaaGreatDoor.plain
set_option linter.unusedVariables false
set_option linter.unusedSimpArgs false
set_option linter.unnecessarySimpa false
set_option maxRecDepth 100000
set_option maxHeartbeats 16000000
open Go.RowKit (wrap64)
theorem zh (n d:Int) (hd:1≤d):n.tdiv d=if n.tmod d<0 then n/d+1 else n/d:=by
 have e1:=Int.mul_tdiv_add_tmod n d
 have e2:=Int.mul_ediv_add_emod n d
 have hm:=Int.emod_nonneg n (show d≠0 by omega)
 have hl:=Int.emod_lt_of_pos n (show 0<d by omega)
 have ha:=Int.tmod_lt_of_pos n (show 0<d by omega)
 have hb:-d<n.tmod d:=by
  have:=Int.lt_tmod_of_pos n (show 0<d by omega)
  omega
 split
 ·rename_i h
  have e3:d*(n.tdiv d-(n/d+1))=n%d-n.tmod d-d:=by rw[Int.mul_sub,Int.mul_add];omega
  have:n.tdiv d-(n/d+1)=0:=by
   apply Classical.byContradiction;intro hne
   rcases Int.lt_or_gt_of_ne hne with h1|h1
   ·have:d*(n.tdiv d-(n/d+1))≤d*(-1):=Int.mul_le_mul_of_nonneg_left (by omega) (by omega)
    omega
   have:d*1≤d*(n.tdiv d-(n/d+1)):=Int.mul_le_mul_of_nonneg_left (by omega) (by omega)
   omega
  omega
 rename_i h
 have e3:d*(n.tdiv d-n/d)=n%d-n.tmod d:=by rw[Int.mul_sub];omega
 have:n.tdiv d-n/d=0:=by
  apply Classical.byContradiction;intro hne
  rcases Int.lt_or_gt_of_ne hne with h1|h1
  ·have:d*(n.tdiv d-n/d)≤d*(-1):=Int.mul_le_mul_of_nonneg_left (by omega) (by omega)
   omega
  have:d*1≤d*(n.tdiv d-n/d):=Int.mul_le_mul_of_nonneg_left (by omega) (by omega)
  omega
 omega
theorem vr (n d:Int) (hd:1≤d):n.tmod d=if n.tmod d<0 then n%d-d else n%d:=by
 have e1:=Int.mul_tdiv_add_tmod n d
 have e2:=Int.mul_ediv_add_emod n d
 have e3:=zh n d hd
 by_cases h:n.tmod d<0
 ·rw[if_pos h] at e3 ⊢
  rw[e3,Int.mul_add] at e1;omega
 rw[if_neg h] at e3 ⊢
 rw[e3] at e1;omega
theorem E8 (n d:Int) (hd:1≤d):(0≤n→0≤n/d∧n/d≤n)∧(n<0→n≤n/d∧n/d<0):=by
 constructor
 ·intro h;exact⟨Int.ediv_nonneg h (by omega),Int.ediv_le_self _ h⟩
 intro h
 refine⟨?_,Int.ediv_neg_of_neg_of_pos h (by omega)⟩
 rw[Int.le_ediv_iff_mul_le (by omega)]
 have:n*d≤n*1:=Int.mul_le_mul_of_nonpos_left (by omega) (by omega)
 omega
theorem uY (n d:Int) (hd:1≤d) (h1:-9223372036854775808≤n) (h2:n≤9223372036854775807) (h3:d≤9223372036854775807) (h:n.tmod d<0) :
  wrap64 (n.tdiv d-1)=n/d∧wrap64 (n.tmod d+d)=n%d:=by
 have a:=zh n d hd
 have b:=vr n d hd
 have c:=E8 n d hd
 have hm:=Int.emod_nonneg n (show d≠0 by omega)
 have hl:=Int.emod_lt_of_pos n (show 0<d by omega)
 rw[if_pos h] at a b
 rw[a,b]
 by_cases h0:0≤n
 ·have:=c.1 h0;constructor<;>(refine Eq.trans (IntWalk.wrap64_in _ (by omega)) (by omega))
 have:=c.2 (by omega);constructor<;>(refine Eq.trans (IntWalk.wrap64_in _ (by omega)) (by omega))
theorem zr (n d:Int) (hd:1≤d) (h:0≤n.tmod d):n.tdiv d=n/d∧n.tmod d=n%d:=by
 have a:=zh n d hd
 have b:=vr n d hd
 rw[if_neg (by omega)] at a b
 exact⟨a,b⟩
theorem e7 (a b:Int) (ha:¬a=0) (hb:¬b=0):a*b<0↔¬(a<0↔b<0):=by
 rcases Int.lt_or_gt_of_ne ha with h|h<;>rcases Int.lt_or_gt_of_ne hb with k|k
 ·have:=Int.mul_pos_of_neg_of_neg h k;omega
 ·have:=Int.mul_neg_of_neg_of_pos h k;omega
 ·have:=Int.mul_neg_of_pos_of_neg h k;omega
 have:=Int.mul_pos h k;omega
theorem ep (a b:Int) (a1:-9223372036854775808≤a) (a2:a≤9223372036854775807) (b1:-9223372036854775808≤b) (b2:b≤9223372036854775807)
  (ha:¬a=0) (hb:¬b=0) (h:a*b < -9223372036854775808∨9223372036854775807<a*b)
  (hq:wrap64 ((wrap64 (a*b)).tdiv b)=a):¬(wrap64 (a*b)<0↔¬(a<0↔b<0)):=by
 have hp:∃k:Int,wrap64 (a*b)=a*b+18446744073709551616*k∧-9223372036854775808≤wrap64 (a*b)∧wrap64 (a*b)≤9223372036854775807:=by
  refine⟨-((a*b+9223372036854775808)/18446744073709551616),?_⟩
  unfold wrap64;omega
 obtain⟨k,hk,hk1,hk2⟩:=hp
 generalize wrap64 (a*b)=p at *
 have e1:=Int.mul_tdiv_add_tmod p b
 have hr:(p.tmod b).natAbs<b.natAbs:=by
  have:=Int.natAbs_tmod p b
  rw[this];exact Nat.mod_lt _ (by omega)
 have hql:(p.tdiv b).natAbs≤p.natAbs:=by rw[Int.natAbs_tdiv];exact Nat.div_le_self _ _
 by_cases hin:p.tdiv b≤9223372036854775807
 ·rw[IntWalk.wrap64_in _ ⟨by omega,hin⟩] at hq
  rw[hq] at e1
  have e2:b*a=a*b:=Int.mul_comm _ _
  omega
 have hw:wrap64 (p.tdiv b)=-9223372036854775808:=by unfold wrap64;omega
 have hpe:p=-9223372036854775808:=by omega
 have hae:a=-9223372036854775808:=by omega
 have hbe:b<0:=by
  apply Classical.byContradiction;intro hnb
  have:p.tdiv b≤0:=by
   have:=Int.tdiv_nonneg (show 0≤-p by omega) (show 0≤b by omega)
   rw[Int.neg_tdiv] at this;omega
  omega
 omega
theorem Zbw {p q r:Prop} [Decidable p] [Decidable q] [Decidable r] (h:p↔¬(q↔r)):(!(decide p == !(decide q == decide r)))=false:=by
 by_cases hp:p<;>by_cases hq:q<;>by_cases hr:r<;>simp_all
theorem gB {p q r:Prop} [Decidable p] [Decidable q] [Decidable r] (h:¬(p↔¬(q↔r))):(!(decide p == !(decide q == decide r)))=true:=by
 by_cases hp:p<;>by_cases hq:q<;>by_cases hr:r<;>simp_all
def sz (a:Int):Int:=(a.natAbs:Int)
theorem getD_lt {α:Type} {l:List α} {k:Nat} (d:α) (h:k<l.length):l.getD k d=l[k]:=by
 rw[List.getD_eq_getElem?_getD,List.getElem?_eq_getElem h,Option.getD_some]
theorem kY {α:Type} {l:List α} {k:Nat} (d:α) (h:k<l.length):l.getD k d∈l:=by
 rw[getD_lt d h];exact List.getElem_mem h
end Go.Proofs.YtgigilkpndhddaaGreatDoor.plain
namespace Go.Proofs.YtgigilkpndhddaaGreatDoor.arith
set_option linter.unusedVariables false
set_option linter.unusedSimpArgs false
set_option linter.unnecessarySimpa false
set_option maxRecDepth 100000
set_option maxHeartbeats 16000000
open Go.RowKit
theorem ye {a b c d:Int} (h:a=b) (h':c=d):Ending.returned (.tuple #[.int .i64 a,.int .i64 c])=.returned (.tuple #[.int .i64 b,.int .i64 d]):=by rw[h,h']
theorem vA (n d:Int) (w:World) (hd:1≤d) (h1:-9223372036854775808≤n) (h2:n≤9223372036854775807) (h3:d≤9223372036854775807) :
  Calls Tryz.prog 172 #[.int .i64 n,.int .i64 d] w fun e w'=>e=.returned (.tuple #[.int .i64 (n/d),.int .i64 (n%d)])∧∃m,w'=w.drewN m:=by
 go_enter Tryz.func172,Tryz.ntmps172
 go_wp2
 go_quiet (fail)
 go_wp2
 all_goals go_ret2
 ·have hm:n.tmod d<0:=by assumption
  have H:=plain.uY n d hd h1 h2 h3 hm
  exact⟨ye H.1 H.2,_,rfl⟩
 have hm:0≤n.tmod d:=by assumption
 have H:=plain.zr n d hd hm
 exact⟨ye H.1 H.2,_,rfl⟩
theorem Za6 (a b:Int) (w:World) (a1:-9223372036854775808≤a) (a2:a≤9223372036854775807) (b1:-9223372036854775808≤b) (b2:b≤9223372036854775807)
  (ha:¬a=0) (hb:¬b=0) (h1:-9223372036854775808≤a*b) (h2:a*b≤9223372036854775807) :
  Calls Tryz.prog 119 #[.int .i64 a,.int .i64 b] w fun e w'=>e=.returned (.tuple #[.int .i64 (a*b),.bool true])∧∃m,w'=w.drewN m:=by
 have ha':(a == 0)=false:=by simpa using ha
 have hb':(b == 0)=false:=by simpa using hb
 have hs:=plain.Zbw (plain.e7 a b ha hb)
 have hw:wrap64 a=a:=IntWalk.wrap64_in a ⟨a1,a2⟩
 go_enter Tryz.func119,Tryz.ntmps119
 go_wp2
 go_ret2
 exact⟨rfl,0,rfl⟩
theorem Zcl (a b:Int) (w:World) (a1:-9223372036854775808≤a) (a2:a≤9223372036854775807) (b1:-9223372036854775808≤b) (b2:b≤9223372036854775807)
  (ha:¬a=0) (hb:¬b=0) (h:a*b < -9223372036854775808∨9223372036854775807<a*b) :
  Calls Tryz.prog 119 #[.int .i64 a,.int .i64 b] w fun e w'=>e=.returned (.tuple #[.int .i64 0,.bool false])∧∃m,w'=w.drewN m:=by
 have ha':(a == 0)=false:=by simpa using ha
 have hb':(b == 0)=false:=by simpa using hb
 by_cases hq:wrap64 ((wrap64 (a*b)).tdiv b)=a
 ·have hs:=plain.gB (plain.ep a b a1 a2 b1 b2 ha hb h hq)
  go_enter Tryz.func119,Tryz.ntmps119
  go_wp2
  go_ret2
  exact⟨rfl,0,rfl⟩
 go_enter Tryz.func119,Tryz.ntmps119
 go_wp2
 go_ret2
 exact⟨rfl,0,rfl⟩
theorem below_drewN {B:Nat} {a w:World} (h:Below B a w) (n:Nat):Below B a (w.drewN n):=⟨h.os,h.tape,h.output,h.size,h.block⟩
theorem Yu {W w1:World} (hb:Below W.heap.size W w1):(∀b o,b<W.heap.size→w1.cell? ⟨b,o,none⟩=W.cell? ⟨b,o,none⟩)∧(∀b o,b<W.heap.size→w1.frozen? ⟨b,o,none⟩=W.frozen? ⟨b,o,none⟩) :=
 ⟨fun b o h=>hb.cell (p:=⟨b,o,none⟩) h,fun b o h=>hb.frozen (p:=⟨b,o,none⟩) h⟩
theorem KI {a b:Int} (ha:1≤a) (hb:1≤b):1≤a*b:=by
 have:=Int.mul_le_mul ha hb (by omega) (by omega);omega
end Go.Proofs.YtgigilkpndhddaaGreatDoor.arith
namespace Go.Proofs.YtgigilkpndhddaaGreatDoor.clock
set_option linter.unusedVariables false
set_option linter.unusedSimpArgs false
set_option linter.unnecessarySimpa false
set_option maxRecDepth 100000
set_option maxHeartbeats 16000000
open Go.RowKit
def qx (n a b:Int):Bool:=decide (a≤n∧n≤b)
theorem Ky {n a b:Int} (h1:a≤n) (h2:n≤b):qx n a b=true:=by unfold qx;simp;omega
theorem GI {n a b:Int} (h:n<a∨b<n):qx n a b=false:=by unfold qx;simp;omega
theorem XM {a b:Bool} (h:a=b):Ending.returned (.bool a)=.returned (.bool b):=by rw[h]
theorem XW (n a b:Int) (w:World) :
  Calls Tryz.prog 105 #[.int .i64 n,.int .i64 a,.int .i64 b] w fun e w'=>e=.returned (.bool (qx n a b))∧w=w':=by
 by_cases h1:a≤n
 ·by_cases h2:n≤b
  ·have E:=Lib.hid (Ky h1 h2)
   go_enter Tryz.func105,Tryz.ntmps105
   go_wp2
   go_ret
   exact⟨XM (by rw[E.out];try (simp;omega)),rfl⟩
  have E:=Lib.hid (GI (n:=n) (a:=a) (b:=b) (by omega))
  have h2':b<n:=by omega
  clear h2
  go_enter Tryz.func105,Tryz.ntmps105
  go_wp2
  go_ret
  exact⟨XM (by rw[E.out];try (simp;omega)),rfl⟩
 have E:=Lib.hid (GI (n:=n) (a:=a) (b:=b) (by omega))
 have h1':n<a:=by omega
 clear h1
 go_enter Tryz.func105,Tryz.ntmps105
 go_wp2
 go_ret
 exact⟨XM (by rw[E.out];try (simp;omega)),rfl⟩
theorem JN (n a b:Int) (w:World) (h1:a≤n) (h2:n≤b) :
  Calls Tryz.prog 105 #[.int .i64 n,.int .i64 a,.int .i64 b] w fun e w'=>e=.returned (.bool true)∧w=w':=by
 have H:=XW n a b w;rwa [Ky h1 h2] at H
theorem US (n a b:Int) (w:World) (h:n<a∨b<n) :
  Calls Tryz.prog 105 #[.int .i64 n,.int .i64 a,.int .i64 b] w fun e w'=>e=.returned (.bool false)∧w=w':=by
 have H:=XW n a b w;rwa [GI h] at H
def Yz (p f:Int):Bool:=decide (1≤p∧p≤2000∧0≤f∧f≤2000)
theorem XL {p f:Int} (h:1≤p∧p≤2000∧0≤f∧f≤2000):Yz p f=true:=by unfold Yz;simp;omega
theorem V2 {p f:Int} (h:¬(1≤p∧p≤2000∧0≤f∧f≤2000)):Yz p f=false:=by unfold Yz;simp;omega
theorem Xd {p f:Int}:Yz p f=true↔(1≤p∧p≤2000∧0≤f∧f≤2000):=by unfold Yz;simp
theorem Y4 (p f:Int) (w:World) (h:1≤p∧p≤2000∧0≤f∧f≤2000) :
  Calls Tryz.prog 58 #[.agg #[.int .i64 p,.int .i64 f]] w fun e w'=>e=.returned (.bool true)∧Below w.heap.size w w':=by
 go_enter Tryz.func58,Tryz.ntmps58
 go_wp2_with (first|(go_at_call 105;refine(JN _ _ _ _ (by omega) (by omega)).mono ?_;rintro e w' ⟨rfl,rfl⟩))
 go_ret
 exact⟨rfl,(Below.refl _ _).alloc (Nat.le_refl _) _⟩
theorem QL (p f:Int) (w:World) (h:¬(1≤p∧p≤2000∧0≤f∧f≤2000)) :
  Calls Tryz.prog 58 #[.agg #[.int .i64 p,.int .i64 f]] w fun e w'=>e=.returned (.bool false)∧Below w.heap.size w w':=by
 by_cases hp:1≤p∧p≤2000
 ·have hf:f<0∨2000<f:=by omega
  clear h
  have HF:=Lib.hid (fun w=>US f 0 2000 w hf)
  go_enter Tryz.func58,Tryz.ntmps58
  go_wp2_with (first|(go_at_call 105;with_reducible refine(HF.out _).mono ?_;rintro e w' ⟨rfl,rfl⟩)|(go_at_call 105;refine(JN _ _ _ _ (by omega) (by omega)).mono ?_;rintro e w' ⟨rfl,rfl⟩))
  go_ret
  exact⟨rfl,(Below.refl _ _).alloc (Nat.le_refl _) _⟩
 have hp':p<1∨2000<p:=by omega
 clear h hp
 have HF:=Lib.hid (fun w=>US p 1 2000 w hp')
 go_enter Tryz.func58,Tryz.ntmps58
 go_wp2_with (go_at_call 105;refine(HF.out _).mono ?_;rintro e w' ⟨rfl,rfl⟩)
 go_ret
 exact⟨rfl,(Below.refl _ _).alloc (Nat.le_refl _) _⟩
theorem XN (p f:Int) (w:World) :
  Calls Tryz.prog 58 #[.agg #[.int .i64 p,.int .i64 f]] w fun e w'=>e=.returned (.bool (Yz p f))∧Below w.heap.size w w':=by
 by_cases h:1≤p∧p≤2000∧0≤f∧f≤2000
 ·rw[XL h];exact Y4 p f w h
 rw[V2 h];exact QL p f w h
theorem e9 (p f n:Int) (w:World) (h:1≤p∧p≤2000∧0≤f∧f≤2000) (h1:0≤n) (h2:n≤1099511627776) :
  Calls Tryz.prog 109 #[.agg #[.int .i64 p,.int .i64 f],.int .i64 n] w fun e w'=>e=.returned (.int .i64 (f+n*p))∧Below w.heap.size w w':=by
 have m1:0≤n*p:=Int.mul_nonneg h1 (by omega)
 have m2:n*p≤1099511627776*2000:=Int.mul_le_mul h2 (by omega) (by omega) (by omega)
 have v1:wrap64 (n*p)=n*p:=IntWalk.wrap64_in _ (by omega)
 have HR:=Lib.hid (fun w=>Y4 p f w h)
 go_enter Tryz.func109,Tryz.ntmps109
 go_wp2_with (first|(go_at_call 58;refine(HR.out _).mono ?_;rintro e w1 ⟨rfl,hb⟩;obtain⟨hc,hf⟩:=arith.Yu hb)|(go_at_call 105;refine(JN _ _ _ _ (by omega) (by omega)).mono ?_;rintro e w' ⟨rfl,rfl⟩))
 go_ret
 exact⟨rfl,((Below.refl _ _).alloc (Nat.le_refl _) _).trans (hb.mono (by simp))⟩
end Go.Proofs.YtgigilkpndhddaaGreatDoor.clock
namespace Go.Proofs.YtgigilkpndhddaaGreatDoor.arith
set_option linter.unusedVariables false
set_option linter.unusedSimpArgs false
set_option linter.unnecessarySimpa false
set_option maxRecDepth 100000
set_option maxHeartbeats 16000000
open Go.RowKit
def X3 (a b:Int):Int:=((Nat.gcd a.toNat b.toNat:Nat):Int)
def GL (a b:Int) (x y:Nat):Prop:=Nat.gcd x y=Nat.gcd a.toNat b.toNat∧x≤9223372036854775807∧y≤9223372036854775807
theorem yY {a b:Int} {x y:Nat} (h:GL a b x y) (hy:y≠0):GL a b y (x%y):=by
 obtain⟨h1,h2,h3⟩:=h
 refine⟨?_,h3,?_⟩
 ·rw[←h1,Nat.gcd_comm x y,Nat.gcd_rec y x,Nat.gcd_comm]
 have:=Nat.mod_le x y;omega
theorem Ev {a:Int} (h:0≤a):Value.int .i64 a=.int .i64 (a.toNat:Int):=by rw[Int.toNat_of_nonneg h]
theorem zR {a:Int} (h:a<0):Value.int .i64 0=.int .i64 (a.toNat:Int):=by rw[show((a.toNat:Nat):Int)=0 by omega]
theorem Zbh {a b:Int} {u:Nat} (h:GL a b u 0):Ending.returned (.int .i64 (u:Int))=.returned (.int .i64 (X3 a b)):=by
 have:=h.1;unfold X3;rw[←this,Nat.gcd_zero_right]
theorem j5 (a b:Int) (w:World) (a1:-9223372036854775808≤a) (a2:a≤9223372036854775807) (b1:-9223372036854775808≤b) (b2:b≤9223372036854775807) :
  Calls Tryz.prog 120 #[.int .i64 a,.int .i64 b] w fun e w'=>e=.returned (.int .i64 (X3 a b))∧∃m,w'=w.drewN m:=by
 go_enter Tryz.func120,Tryz.ntmps120
 go_wp2
 all_goals
  go_loopw [0,1] (fun x y wr=>∃u v:Nat,GL a b u v∧x=.int .i64 u∧y=.int .i64 v∧∃m,wr=w.drewN m) (fun _ y _=>(intOf y).toNat)
  case atStart=>exact⟨a.toNat,b.toNat,⟨rfl,by omega,by omega⟩,by first|exact Ev (by assumption)|exact zR (by assumption),by first|exact Ev (by assumption)|exact zR (by assumption),0,rfl⟩
  obtain⟨u,v,hr,rfl,rfl,m,rfl⟩:=hrel
  have HR:Hid (GL a b u v):=hr
  have hu:u≤9223372036854775807:=hr.2.1
  have hv:v≤9223372036854775807:=hr.2.2
  clear hr
  by_cases h0:v=0
  ·subst h0
   go_wp2
   go_ret
   exact⟨Zbh HR.out,m,rfl⟩
  have hb:((v:Int) == 0)=false:=by simp;omega
  have hb':((v:Int) != 0)=true:=by simp;omega
  have hpos:(1:Int)≤v:=by omega
  go_wp2
  go_quiet (fail)
  go_wp2
  go_roundw
  case rel=>exact⟨v,u%v,yY HR.out h0,rfl,by go_num,_,World.drewN_drewN ..⟩
  have:=Nat.mod_lt u (show 0<v by omega);simp[intOf];omega
def YJ:Int→List Int→Option Int
 | c,[]=>some c
 | c,x::r=>if x<1 then none else if 9223372036854775807<c/X3 c x*x then none else YJ (c/X3 c x*x) r
def ZbR:Option Int→Value
 | none=>.tuple #[.int .i64 0,.bool false]
 | some c=>.tuple #[.int .i64 c,.bool true]
def Gd (w:World) (v:Value) (l:List Int):Prop :=
 (∃a cap,v=.slice a 0 cap∧l=[])∨∃b off cap,v=.slice (some ⟨b,off,none⟩) l.length cap∧∀k,k<l.length→w.cell? ⟨b,off+k,none⟩=some (.int .i64 (l.getD k 0))
theorem ET {c x:Int} (hc:1≤c):1≤X3 c x:=by
 unfold X3
 have:=Nat.gcd_pos_of_pos_left x.toNat (show 0<c.toNat by omega)
 omega
theorem xQ {c x:Int} (hc:1≤c):X3 c x≤c:=by
 unfold X3
 have:=Nat.gcd_le_left x.toNat (show 0<c.toNat by omega)
 omega
theorem jM {c x:Int} (hc:1≤c):1≤c/X3 c x:=by
 have h1:=ET (x:=x) hc
 have h2:=xQ (x:=x) hc
 rw[Int.le_ediv_iff_mul_le (by omega)];omega
theorem UQ {c x:Int} (hc:1≤c):c/X3 c x≤c:=Int.ediv_le_self _ (by omega)
theorem UM {l:List Int} {k:Nat} (h:k<l.length):l.drop k=l.getD k 0::l.drop (k+1):=by
 rw[List.drop_eq_getElem_cons h,plain.getD_lt 0 h]
theorem ZaV {l:List Int} {k:Nat} {c:Int} (h:k<l.length) (hx:l.getD k 0<1) (H:YJ c (l.drop k)=YJ 1 l):YJ 1 l=none:=by
 rw[←H,UM h,YJ,if_pos hx]
theorem kF {l:List Int} {k:Nat} {c:Int} (h:k<l.length) (hx:1≤l.getD k 0) (ho:9223372036854775807<c/X3 c (l.getD k 0)*l.getD k 0) (H:YJ c (l.drop k)=YJ 1 l):YJ 1 l=none:=by
 rw[←H,UM h,YJ,if_neg (by omega),if_pos ho]
theorem gF {l:List Int} {k:Nat} {c:Int} (h:k<l.length) (hx:1≤l.getD k 0) (ho:c/X3 c (l.getD k 0)*l.getD k 0≤9223372036854775807) (H:YJ c (l.drop k)=YJ 1 l) :
  YJ (c/X3 c (l.getD k 0)*l.getD k 0) (l.drop (k+1))=YJ 1 l:=by
 rw[←H,UM h,YJ,if_neg (by omega),if_neg (by omega)]
theorem Zaa {l:List Int} {k:Nat} {c:Int} (h:l.length≤k) (H:YJ c (l.drop k)=YJ 1 l):YJ 1 l=some c:=by
 rw[←H,List.drop_eq_nil_of_le h,YJ]
theorem ZaC (l:List Int) (v:Value) (w:World) (hv:Gd w v l) (hn:l.length≤9223372036854775807) (hl:∀x∈l,x≤9223372036854775807) :
  Calls Tryz.prog 78 #[v] w fun e w'=>e=.returned (ZbR (YJ 1 l))∧∃m,w'=w.drewN m:=by
 rcases hv with ⟨a,cap,rfl,rfl⟩|⟨b,off,cap,rfl,hc⟩
 ·clear hl hn
  go_enter Tryz.func78,Tryz.ntmps78
  go_wp2
  go_rounds 1
  go_ret2
  exact⟨rfl,0,rfl⟩
 have HC:Hid (∀k,k<l.length→w.cell? ⟨b,off+k,none⟩=some (.int .i64 (l.getD k 0))):=hc
 have HL:Hid (∀x∈l,x≤9223372036854775807):=hl
 clear hc hl
 go_enter Tryz.func78,Tryz.ntmps78
 go_wp2
 go_loopw [4,11] (fun c i wr=>∃(n:Int) (k:Nat),k≤l.length∧1≤n∧n≤9223372036854775807∧Hid (YJ n (l.drop k)=YJ 1 l)∧c=.int .i64 n∧i=.int .i64 k∧∃m,wr=w.drewN m) (fun _ i _=>l.length-(intOf i).toNat)
 case atStart=>exact⟨1,0,by omega,by omega,by omega,rfl,rfl,rfl,0,rfl⟩
 obtain⟨n,k,hk,hn1,hn2,HR,rfl,rfl,m,rfl⟩:=hrel
 by_cases hlt:k<l.length
 ·have hcell:=HC.out k hlt
  have hxm:l.getD k 0≤9223372036854775807:=HL.out _ (plain.kY 0 hlt)
  have L1:=@ZaV l k n hlt
  have L2:=@kF l k n hlt
  have L3:=@gF l k n hlt
  have HL1:=Lib.hid L1
  have HL2:=Lib.hid L2
  have HL3:=Lib.hid L3
  clear L1 L2 L3
  generalize l.getD k 0=x at *
  by_cases hx:x<1
  ·have E:=Lib.hid (HL1.out hx HR.out)
   clear HL1 HL2 HL3
   go_wp2
   go_ret2
   exact⟨by rw[E.out];rfl,m,rfl⟩
  have hx1:1≤x:=by omega
  have g1:=ET (x:=x) hn1
  have g2:=xQ (x:=x) hn1
  have q1:=jM (x:=x) hn1
  have q2:=UQ (x:=x) hn1
  have p1:=KI q1 hx1
  by_cases ho:9223372036854775807<n/X3 n x*x
  ·have E:=Lib.hid (HL2.out hx1 ho HR.out)
   clear HL1 HL2 HL3
   go_wp2_with (first|(go_at_call 120;refine(j5 _ _ _ (by omega) (by omega) (by omega) (by omega)).mono ?_;rintro e w' ⟨rfl,m1,rfl⟩)|(go_at_call 119;refine(Zcl _ _ _ (by omega) (by omega) (by omega) (by omega) (by omega) (by omega) (by omega)).mono ?_;rintro e w' ⟨rfl,m1,rfl⟩))
   go_ret2
   exact⟨by rw[E.out];rfl,_,rfl⟩
  have E:=Lib.hid (HL3.out hx1 (by omega) HR.out)
  have ho':n/X3 n x*x≤9223372036854775807:=by omega
  clear HL1 HL2 HL3 ho
  go_wp2_with (first|(go_at_call 120;refine(j5 _ _ _ (by omega) (by omega) (by omega) (by omega)).mono ?_;rintro e w' ⟨rfl,m1,rfl⟩)|(go_at_call 119;refine(Za6 _ _ _ (by omega) (by omega) (by omega) (by omega) (by omega) (by omega) (by omega) (by omega)).mono ?_;rintro e w' ⟨rfl,m1,rfl⟩))
  go_roundw
  case rel=>exact⟨_,k+1,by omega,p1,ho',E.out,rfl,by go_num,_,rfl⟩
  simp[intOf];omega
 have E:=Lib.hid (Zaa (by omega) HR.out)
 have hkl:k=l.length:=by omega
 subst hkl
 go_wp2
 go_ret2
 exact⟨by rw[E.out];rfl,m,rfl⟩
theorem Gw (x:Int):X3 1 x=1:=by unfold X3;rw[show(1:Int).toNat=1 from rfl,Nat.gcd_one_left];rfl
theorem Gd.below {w w1:World} {v:Value} {l:List Int} (h:Gd w v l) (hb:Below w.heap.size w w1):Gd w1 v l:=by
 rcases h with ⟨a,cap,h1,h2⟩|⟨b,off,cap,h1,h2⟩
 ·exact .inl ⟨a,cap,h1,h2⟩
 refine .inr ⟨b,off,cap,h1,fun k hk=>?_⟩
 have hc:=h2 k hk
 rw[hb.cell (p:=⟨b,off+k,none⟩) (block_lt_of_cell hc),hc]
end Go.Proofs.YtgigilkpndhddaaGreatDoor.arith
namespace Go.Proofs.YtgigilkpndhddaaGreatDoor.clock
set_option linter.unusedVariables false
set_option linter.unusedSimpArgs false
set_option linter.unnecessarySimpa false
set_option maxRecDepth 100000
set_option maxHeartbeats 16000000
open Go.RowKit
def Ug (h p:Int):Int:=h/arith.X3 h p*p
def YV:Int→List (Int × Int)→Option Int
 | h,[]=>some h
 | h,c::l=>if 2000<Ug h c.1 then none else YV (Ug h c.1) l
theorem jD {h p:Int} (h1:1≤h) (h2:h≤2000) (p1:1≤p) (p2:p≤2000):1≤Ug h p∧Ug h p≤4000000:=by
 have q1:=arith.jM (x:=p) h1
 have q2:=arith.UQ (x:=p) h1
 refine⟨arith.KI q1 p1,?_⟩
 have:h/arith.X3 h p*p≤2000*2000:=Int.mul_le_mul (by omega) p2 (by omega) (by omega)
 unfold Ug;omega
theorem yu {h p:Int} (h1:1≤h) (h2:h≤2000) (p1:1≤p) (p2:p≤2000):arith.YJ 1 [h,p]=some (Ug h p):=by
 have b:=jD h1 h2 p1 p2
 rw[arith.YJ,if_neg (by omega),arith.Gw,show(1:Int)/1*h=h by omega,if_neg (by omega),arith.YJ,if_neg (by omega)]
 unfold Ug at b ⊢
 rw[if_neg (by omega),arith.YJ]
theorem eH (w:World) (a b:Int):arith.Gd (w.alloc (Obj.cells #[.int .i64 a,.int .i64 b] 2)) (.slice (some ⟨w.heap.size,0,none⟩) 2 2) [a,b]:=by
 refine .inr ⟨w.heap.size,0,2,rfl,?_⟩
 intro k hk
 match k,hk with
 | 0,_=>simp[go_sem]
 | 1,_=>simp[go_sem]
theorem eQ (h p:Int) (w:World) (B:Nat) (hB:B=w.heap.size) (h1:1≤h) (h2:h≤2000) (p1:1≤p) (p2:p≤2000) :
  Calls Tryz.prog 78 #[.slice (some ⟨B,0,none⟩) 2 2] (w.alloc (Obj.cells #[.int .i64 h,.int .i64 p] 2)) fun e w' =>
   e=.returned (.tuple #[.int .i64 (Ug h p),.bool true])∧∃m,w'=(w.alloc (Obj.cells #[.int .i64 h,.int .i64 p] 2)).drewN m:=by
 subst hB
 have:=arith.ZaC [h,p] _ _ (eH w h p) (by simp) (by simp;omega)
 rw[yu h1 h2 p1 p2] at this
 exact this
def qW (c:Int × Int):Prop:=1≤c.1∧c.1≤2000∧0≤c.2∧c.2≤2000
def Zag:Option Int→Value
 | none=>.tuple #[.int .i64 0,.int .i64 8]
 | some h=>.tuple #[.int .i64 h,.int .i64 0]
theorem GJ {l:List (Int × Int)} {k:Nat} (h:k<l.length):l.drop k=l.getD k (0,0)::l.drop (k+1):=by
 rw[List.drop_eq_getElem_cons h,plain.getD_lt _ h]
theorem jm {l:List (Int × Int)} {k:Nat} {h:Int} {X:Option Int} (hk:k<l.length) (ho:2000<Ug h (l.getD k (0,0)).1) (H:YV h (l.drop k)=X):X=none:=by
 rw[GJ hk,YV,if_pos ho] at H;exact H.symm
theorem qs {l:List (Int × Int)} {k:Nat} {h:Int} {X:Option Int} (hk:k<l.length) (ho:¬2000<Ug h (l.getD k (0,0)).1) (H:YV h (l.drop k)=X):YV (Ug h (l.getD k (0,0)).1) (l.drop (k+1))=X:=by
 rw[GJ hk,YV,if_neg ho] at H;exact H
theorem qY {l:List (Int × Int)} {k:Nat} {h:Int} {X:Option Int} (hk:l.length≤k) (H:YV h (l.drop k)=X):X=some h:=by
 rw[List.drop_eq_nil_of_le hk,YV] at H;exact H.symm
theorem qd (l:List (Int × Int)) (b off cap:Nat) (w:World) (hl:l.length≤9223372036854775807) (hb0:b<w.heap.size)
  (hcell:∀k,k<l.length→w.cell? ⟨b,off+k*2,none⟩=some (.int .i64 (l.getD k (0,0)).1)∧w.cell? ⟨b,off+k*2+1,none⟩=some (.int .i64 (l.getD k (0,0)).2))
  (hgood:∀k,k<l.length→qW (l.getD k (0,0))) :
  Calls Tryz.prog 32 #[.slice (some ⟨b,off,none⟩) l.length cap] w fun e w'=>e=.returned (Zag (YV 1 l))∧Below w.heap.size w w':=by
 have HC:=Lib.hid hcell
 have HG:=Lib.hid hgood
 clear hcell hgood
 go_enter Tryz.func32,Tryz.ntmps32
 go_wp2
 go_loopw [13] (fun i wr=>∃k:Nat,k≤l.length∧i=.int .i64 k∧Hid (Below w.heap.size w wr)) (fun i _=>l.length-(intOf i).toNat)
 case atStart=>exact⟨0,by omega,rfl,Below.refl _ _⟩
 obtain⟨k,hk,rfl,HW⟩:=hrel
 by_cases hlt:k<l.length
 ·have hh:=HC.out k hlt
  obtain⟨e0,e1⟩:=hh
  rw[←HW.out.cell (p:=⟨b,_,none⟩) hb0] at e0 e1
  have hr:=HG.out k hlt
  unfold qW at hr
  generalize l.getD k (0,0)=c at *
  obtain⟨cp,cf⟩:=c
  simp only at e0 e1 hr
  have HX:=Lib.hid (fun w=>Y4 cp cf w hr)
  clear hr
  go_wp2_with (go_at_call 58;(with_reducible refine(HX.out _).mono ?_);rintro e w1 ⟨rfl,hb1⟩;have HB1:=Lib.hid hb1;clear hb1)
  go_roundw
  case rel=>exact⟨k+1,by omega,by go_num,(HW.out.alloc HW.out.size _).trans (HB1.out.mono (by simp;have:=HW.out.size;omega))⟩
  simp[intOf];omega
 have hk0:k=l.length:=by omega
 subst hk0
 go_wp2
 obtain⟨wo,rfl⟩:∃wo:World,wo=wr:=⟨_,rfl⟩
 go_loopw [6,23] (fun h i wr=>∃(k:Nat) (n:Int),k≤l.length∧1≤n∧n≤2000∧h=.int .i64 n∧i=.int .i64 k∧Hid (YV n (l.drop k)=YV 1 l)∧Hid (Below w.heap.size w wr)) (fun _ i _=>l.length-(intOf i).toNat)
 case atStart=>exact⟨0,1,by omega,by omega,by omega,rfl,rfl,rfl,HW⟩
 obtain⟨k,n,hk,n1,n2,rfl,rfl,HH,HV⟩:=hrel
 by_cases hlt:k<l.length
 ·have hh:=HC.out k hlt
  obtain⟨e0,e1⟩:=hh
  rw[←HV.out.cell (p:=⟨b,_,none⟩) hb0] at e0 e1
  have hr:=HG.out k hlt
  unfold qW at hr
  have L1:=@jm l k n (YV 1 l) hlt
  have L2:=@qs l k n (YV 1 l) hlt
  have HL1:=Lib.hid L1
  have HL2:=Lib.hid L2
  clear L1 L2
  generalize l.getD k (0,0)=c at *
  obtain⟨cp,cf⟩:=c
  simp only at e0 e1 hr HL1 HL2
  have p1:=hr.1
  have p2:=hr.2.1
  clear hr
  have bd:=jD n1 n2 p1 p2
  have b1:=bd.1
  have b2:=bd.2
  clear bd
  have HX:=Lib.hid (fun w B hB=>eQ n cp w B hB n1 n2 p1 p2)
  by_cases ho:2000<Ug n cp
  ·have E:=Lib.hid (HL1.out ho HH.out)
   clear HL1 HL2
   go_wp2_with (go_at_call 78;(with_reducible refine(HX.out _ _ (by simp)).mono ?_);rintro e w1 ⟨rfl,m,rfl⟩)
   go_ret2
   exact⟨by rw[E.out];rfl,arith.below_drewN ((HV.out.alloc HV.out.size _).alloc (by simp;have:=HV.out.size;omega) _) _⟩
  have E:=Lib.hid (HL2.out ho HH.out)
  clear HL1 HL2
  have ho':Ug n cp≤2000:=by omega
  clear ho
  go_wp2_with (go_at_call 78;(with_reducible refine(HX.out _ _ (by simp)).mono ?_);rintro e w1 ⟨rfl,m,rfl⟩)
  go_roundw
  case rel=>exact⟨k+1,Ug n cp,by omega,b1,ho',rfl,by go_num,E,arith.below_drewN ((HV.out.alloc HV.out.size _).alloc (by simp;have:=HV.out.size;omega) _) _⟩
  simp[intOf];omega
 have E:=Lib.hid (qY (by omega) HH.out)
 have hk0:k=l.length:=by omega
 subst hk0
 go_wp2
 go_ret2
 exact⟨by rw[E.out];rfl,HV.out⟩
def Jd (k n d:Int):Bool:=decide ((k=3∨k=4→1≤n∧n≤100)∧(k=5→1≤d∧d≤100∧0≤n∧n≤100))
theorem EV {k n d:Int} (h:(k=3∨k=4→1≤n∧n≤100)∧(k=5→1≤d∧d≤100∧0≤n∧n≤100)):Jd k n d=true:=by unfold Jd;exact decide_eq_true h
theorem qC {k n d:Int} (h:¬((k=3∨k=4→1≤n∧n≤100)∧(k=5→1≤d∧d≤100∧0≤n∧n≤100))):Jd k n d=false:=by
 unfold Jd;exact decide_eq_false h
theorem Uk {w:World} (o:Obj):Below w.heap.size w (w.alloc o):=(Below.refl _ _).alloc (Nat.le_refl _) _
theorem ZaQ (k n d:Int) (w:World) (hk:k=3∨k=4) :
  Calls Tryz.prog 117 #[.agg #[.int .i64 k,.int .i64 n,.int .i64 d]] w fun e w'=>e=.returned (.bool (qx n 1 100))∧Below w.heap.size w w':=by
 rcases hk with rfl|rfl
 all_goals
  go_enter Tryz.func117,Tryz.ntmps117
  go_wp2_with (go_at_call 105;refine(XW _ _ _ _).mono ?_;rintro e w' ⟨rfl,rfl⟩)
  go_ret
  exact⟨rfl,Uk _⟩
theorem ZbN (n d:Int) (w:World) (h:1≤d∧d≤100) :
  Calls Tryz.prog 117 #[.agg #[.int .i64 5,.int .i64 n,.int .i64 d]] w fun e w'=>e=.returned (.bool (qx n 0 100))∧Below w.heap.size w w':=by
 have HD:=Lib.hid (fun w=>JN d 1 100 w h.1 h.2)
 clear h
 go_enter Tryz.func117,Tryz.ntmps117
 go_wp2_with (first|(go_at_call 105;with_reducible refine(HD.out _).mono ?_;rintro e w' ⟨rfl,rfl⟩)|(go_at_call 105;refine(XW _ _ _ _).mono ?_;rintro e w' ⟨rfl,rfl⟩))
 go_ret
 exact⟨rfl,Uk _⟩
theorem kD (n d:Int) (w:World) (h:d<1∨100<d) :
  Calls Tryz.prog 117 #[.agg #[.int .i64 5,.int .i64 n,.int .i64 d]] w fun e w'=>e=.returned (.bool false)∧Below w.heap.size w w':=by
 have HD:=Lib.hid (fun w=>US d 1 100 w h)
 clear h
 go_enter Tryz.func117,Tryz.ntmps117
 go_wp2_with (first|(go_at_call 105;with_reducible refine(HD.out _).mono ?_;rintro e w' ⟨rfl,rfl⟩))
 go_ret
 exact⟨rfl,Uk _⟩
theorem kW (k n d:Int) (w:World) (hk:k=6∨k=7∨k=8) :
  Calls Tryz.prog 117 #[.agg #[.int .i64 k,.int .i64 n,.int .i64 d]] w fun e w'=>e=.returned (.bool true)∧Below w.heap.size w w':=by
 rcases hk with rfl|rfl|rfl
 all_goals
  go_enter Tryz.func117,Tryz.ntmps117
  go_wp2
  go_ret
  exact⟨rfl,Uk _⟩
theorem Q4 (k n d:Int) (w:World) (hk:3≤k∧k≤8) :
  Calls Tryz.prog 117 #[.agg #[.int .i64 k,.int .i64 n,.int .i64 d]] w fun e w'=>e=.returned (.bool (Jd k n d))∧Below w.heap.size w w':=by
 by_cases h34:k=3∨k=4
 ·have H:=ZaQ k n d w h34
  by_cases hn:1≤n∧n≤100
  ·rw[Ky hn.1 hn.2] at H;rw[EV (by omega)];exact H
  rw[GI (by omega)] at H;rw[qC (by omega)];exact H
 by_cases h5:k=5
 ·subst h5
  by_cases hd:1≤d∧d≤100
  ·have H:=ZbN n d w hd
   by_cases hn:0≤n∧n≤100
   ·rw[Ky hn.1 hn.2] at H;rw[EV (by omega)];exact H
   rw[GI (by omega)] at H;rw[qC (by omega)];exact H
  rw[qC (by omega)];exact kD n d w (by omega)
 rw[EV (by omega)];exact kW k n d w (by omega)
theorem kP {p n:Int} (h1:0≤p) (h2:p≤2000) (h3:-1≤n) (h4:n≤100):-2000≤p*n∧p*n≤200000:=by
 have a:p*n≤p*100:=Int.mul_le_mul_of_nonneg_left h4 h1
 have b:p*(-1)≤p*n:=Int.mul_le_mul_of_nonneg_left h3 h1
 omega
theorem Zb0 {x d:Int} (h1:-2000≤x) (h2:x≤200000) (hd:1≤d):-2000≤x/d∧x/d≤200000:=by
 have:=plain.E8 x d hd
 by_cases h:0≤x
 ·have:=this.1 h;omega
 have:=this.2 (by omega);omega
theorem Ga (p n d:Int) (w:World) (h1:0≤p) (h2:p≤2000) (h3:-1≤n) (h4:n≤100) (h5:1≤d) (h6:d≤9223372036854775807) :
  Calls Tryz.prog 155 #[.int .i64 p,.int .i64 n,.int .i64 d] w fun e w'=>e=.returned (.tuple #[.int .i64 (p*n/d),.bool (p*n%d == 0)])∧∃m,w'=w.drewN m:=by
 have hm:=kP h1 h2 h3 h4
 have v1:wrap64 (p*n)=p*n:=IntWalk.wrap64_in _ (by omega)
 have HF:=Lib.hid (fun w=>arith.vA (p*n) d w h5 (by omega) (by omega) h6)
 go_enter Tryz.func155,Tryz.ntmps155
 go_wp2_with (go_at_call 172;refine(HF.out _).mono ?_;rintro e w' ⟨rfl,m1,rfl⟩)
 go_ret2
 exact⟨rfl,_,rfl⟩
def shB (p f n d:Int):Bool:=decide (p*n%d=0∧0≤f+p*n/d)
theorem Uw (p f n d:Int) (w:World) (h1:0≤p) (h2:p≤2000) (f1:0≤f) (f2:f≤2000) (h3:-1≤n) (h4:n≤100) (h5:1≤d) (h6:d≤100) :
  Calls Tryz.prog 156 #[.agg #[.int .i64 p,.int .i64 f],.int .i64 n,.int .i64 d] w fun e w' =>
   e=.returned (.tuple #[.agg #[.int .i64 p,.int .i64 (f+p*n/d)],.bool (shB p f n d)])∧Below w.heap.size w w':=by
 have hm:=kP h1 h2 h3 h4
 have hq:=Zb0 hm.1 hm.2 h5
 have q1:=hq.1
 have q2:=hq.2
 have HP:=Lib.hid (fun w=>Ga p n d w h1 h2 h3 h4 h5 (by omega))
 clear hm hq
 by_cases hz:p*n%d=0
 ·have z:(p*n%d == 0)=true:=by simpa using hz
  by_cases hp:0≤f+p*n/d
  ·have E:Hid (shB p f n d=true):=by unfold shB;exact decide_eq_true ⟨hz,hp⟩
   clear hz
   go_enter Tryz.func156,Tryz.ntmps156
   go_wp2_with (go_at_call 155;refine(HP.out _).mono ?_;rintro e w' ⟨rfl,m1,rfl⟩)
   exact bodyPost_ret (v:=.tuple #[.agg #[.int .i64 p,.int .i64 (f+p*n/d)],.bool true]) (by simp[results,Tryz.results156,go_sem]<;>omega) rfl ⟨by rw[E.out],(by repeat (first|exact Below.refl _ _|(refine Below.setCell ?_ (by first|(simp;done)|(simp;omega)) _)|(refine Below.alloc ?_ (by first|(simp;done)|(simp;omega)) _)|(refine arith.below_drewN ?_ _)))⟩
  have E:Hid (shB p f n d=false):=by unfold shB;exact decide_eq_false (fun h=>hp h.2)
  clear hz
  have hp':f+p*n/d<0:=by omega
  clear hp
  go_enter Tryz.func156,Tryz.ntmps156
  go_wp2_with (go_at_call 155;refine(HP.out _).mono ?_;rintro e w' ⟨rfl,m1,rfl⟩)
  exact bodyPost_ret (v:=.tuple #[.agg #[.int .i64 p,.int .i64 (f+p*n/d)],.bool false]) (by simp[results,Tryz.results156,go_sem]<;>omega) rfl ⟨by rw[E.out],(by repeat (first|exact Below.refl _ _|(refine Below.setCell ?_ (by first|(simp;done)|(simp;omega)) _)|(refine Below.alloc ?_ (by first|(simp;done)|(simp;omega)) _)|(refine arith.below_drewN ?_ _)))⟩
 have z:(p*n%d == 0)=false:=by simpa using hz
 have E:Hid (shB p f n d=false):=by unfold shB;exact decide_eq_false (fun h=>hz h.1)
 clear hz
 go_enter Tryz.func156,Tryz.ntmps156
 go_wp2_with (go_at_call 155;refine(HP.out _).mono ?_;rintro e w' ⟨rfl,m1,rfl⟩)
 exact bodyPost_ret (v:=.tuple #[.agg #[.int .i64 p,.int .i64 (f+p*n/d)],.bool false]) (by simp[results,Tryz.results156,go_sem]<;>omega) rfl ⟨by rw[E.out],(by repeat (first|exact Below.refl _ _|(refine Below.setCell ?_ (by first|(simp;done)|(simp;omega)) _)|(refine Below.alloc ?_ (by first|(simp;done)|(simp;omega)) _)|(refine arith.below_drewN ?_ _)))⟩
theorem U7 (p f n d:Int) (w:World) (h1:0≤p) (h2:p≤2000) (f1:0≤f) (f2:f≤2000) (h3:1≤n) (h4:n≤100) :
  Calls Tryz.prog 118 #[.agg #[.int .i64 p,.int .i64 f],.agg #[.int .i64 3,.int .i64 n,.int .i64 d]] w fun e w' =>
   e=.returned (.tuple #[.agg #[.int .i64 (p/n),.int .i64 f],.bool (p%n == 0)])∧Below w.heap.size w w':=by
 have HP:=Lib.hid (fun w=>Ga p 1 n w h1 h2 (by omega) (by omega) h3 (by omega))
 have e1:p*1=p:=by omega
 rw[e1] at HP
 clear e1
 go_enter Tryz.func118,Tryz.ntmps118
 go_wp2_with (go_at_call 155;refine(HP.out _).mono ?_;rintro e w' ⟨rfl,m1,rfl⟩)
 exact bodyPost_ret (v:=.tuple #[.agg #[.int .i64 (p/n),.int .i64 f],.bool (p%n == 0)]) (by simp[results,Tryz.results118,go_sem]) rfl ⟨rfl,(by repeat (first|exact Below.refl _ _|(refine Below.setCell ?_ (by first|(simp;done)|(simp;omega)) _)|(refine Below.alloc ?_ (by first|(simp;done)|(simp;omega)) _)|(refine arith.below_drewN ?_ _)))⟩
theorem VW (p f n d:Int) (w:World) (h1:0≤p) (h2:p≤2000) (f1:0≤f) (f2:f≤2000) (h3:1≤n) (h4:n≤100) :
  Calls Tryz.prog 118 #[.agg #[.int .i64 p,.int .i64 f],.agg #[.int .i64 4,.int .i64 n,.int .i64 d]] w fun e w' =>
   e=.returned (.tuple #[.agg #[.int .i64 (p*n),.int .i64 f],.bool true])∧Below w.heap.size w w':=by
 have HP:=Lib.hid (fun w=>Ga p n 1 w h1 h2 (by omega) (by omega) (by omega) (by omega))
 have e1:p*n/1=p*n:=by omega
 have e2:(p*n%1 == 0)=true:=by simp
 rw[e1,e2] at HP
 clear e1 e2
 go_enter Tryz.func118,Tryz.ntmps118
 go_wp2_with (go_at_call 155;refine(HP.out _).mono ?_;rintro e w' ⟨rfl,m1,rfl⟩)
 exact bodyPost_ret (v:=.tuple #[.agg #[.int .i64 (p*n),.int .i64 f],.bool true]) (by simp[results,Tryz.results118,go_sem]) rfl ⟨rfl,(by repeat (first|exact Below.refl _ _|(refine Below.setCell ?_ (by first|(simp;done)|(simp;omega)) _)|(refine Below.alloc ?_ (by first|(simp;done)|(simp;omega)) _)|(refine arith.below_drewN ?_ _)))⟩
theorem V6 (p f n d:Int) (w:World) (h1:0≤p) (h2:p≤2000) (f1:0≤f) (f2:f≤2000) (h3:0≤n) (h4:n≤100) (h5:1≤d) (h6:d≤100) :
  Calls Tryz.prog 118 #[.agg #[.int .i64 p,.int .i64 f],.agg #[.int .i64 5,.int .i64 n,.int .i64 d]] w fun e w' =>
   e=.returned (.tuple #[.agg #[.int .i64 p,.int .i64 (f+p*n/d)],.bool (p*n%d == 0)])∧Below w.heap.size w w':=by
 have hs:shB p f n d=(p*n%d == 0):=by
  have hm:=Int.mul_nonneg h1 h3
  have hq:=Int.ediv_nonneg hm (show 0≤d by omega)
  unfold shB
  by_cases hz:p*n%d=0
  ·rw[decide_eq_true ⟨hz,by omega⟩];simp[hz]
  rw[decide_eq_false (fun h=>hz h.1)];simp[hz]
 have HP:=Lib.hid (fun w=>Uw p f n d w h1 h2 f1 f2 (by omega) h4 h5 h6)
 rw[hs] at HP
 clear hs
 go_enter Tryz.func118,Tryz.ntmps118
 go_wp2_with (go_at_call 156;refine(HP.out _).mono ?_;rintro e w1 ⟨rfl,hb⟩;obtain⟨hc,hf⟩:=arith.Yu hb)
 exact bodyPost_ret (v:=.tuple #[.agg #[.int .i64 p,.int .i64 (f+p*n/d)],.bool (p*n%d == 0)]) (by simp[results,Tryz.results118,go_sem,hc]) rfl ⟨rfl,(by repeat (first|exact Below.refl _ _|(refine Below.setCell ?_ (by first|(simp;done)|(simp;omega)) _)|(refine Below.alloc ?_ (by first|(simp;done)|(simp;omega)) _)|(refine arith.below_drewN ?_ _)|(refine Below.trans ?_ (hb.mono (by first|(simp;done)|(simp;omega))))))⟩
theorem qi (p f n d:Int) (w:World) :
  Calls Tryz.prog 118 #[.agg #[.int .i64 p,.int .i64 f],.agg #[.int .i64 6,.int .i64 n,.int .i64 d]] w fun e w' =>
   e=.returned (.tuple #[.agg #[.int .i64 p,.int .i64 f],.bool true])∧Below w.heap.size w w':=by
 go_enter Tryz.func118,Tryz.ntmps118
 go_wp2
 exact bodyPost_ret (v:=.tuple #[.agg #[.int .i64 p,.int .i64 f],.bool true]) (by simp[results,Tryz.results118,go_sem]) rfl ⟨rfl,(by repeat (first|exact Below.refl _ _|(refine Below.setCell ?_ (by first|(simp;done)|(simp;omega)) _)|(refine Below.alloc ?_ (by first|(simp;done)|(simp;omega)) _)|(refine arith.below_drewN ?_ _)))⟩
theorem U0 (p f n d:Int) (w:World) (h1:0≤p) (h2:p≤2000) (f1:0≤f) (f2:f≤2000) :
  Calls Tryz.prog 118 #[.agg #[.int .i64 p,.int .i64 f],.agg #[.int .i64 7,.int .i64 n,.int .i64 d]] w fun e w' =>
   e=.returned (.tuple #[.agg #[.int .i64 p,.int .i64 (f+p)],.bool true])∧Below w.heap.size w w':=by
 have hs:shB p f 1 1=true:=by unfold shB;exact decide_eq_true ⟨by omega,by omega⟩
 have e1:p*1/1=p:=by omega
 have HP:=Lib.hid (fun w=>Uw p f 1 1 w h1 h2 f1 f2 (by omega) (by omega) (by omega) (by omega))
 rw[hs,e1] at HP
 clear hs e1
 go_enter Tryz.func118,Tryz.ntmps118
 go_wp2_with (go_at_call 156;refine(HP.out _).mono ?_;rintro e w1 ⟨rfl,hb⟩;obtain⟨hc,hf⟩:=arith.Yu hb)
 exact bodyPost_ret (v:=.tuple #[.agg #[.int .i64 p,.int .i64 (f+p)],.bool true]) (by simp[results,Tryz.results118,go_sem,hc]) rfl ⟨rfl,(by repeat (first|exact Below.refl _ _|(refine Below.setCell ?_ (by first|(simp;done)|(simp;omega)) _)|(refine Below.alloc ?_ (by first|(simp;done)|(simp;omega)) _)|(refine arith.below_drewN ?_ _)|(refine Below.trans ?_ (hb.mono (by first|(simp;done)|(simp;omega))))))⟩
theorem UU (p f n d:Int) (w:World) (h1:0≤p) (h2:p≤2000) (f1:0≤f) (f2:f≤2000) :
  Calls Tryz.prog 118 #[.agg #[.int .i64 p,.int .i64 f],.agg #[.int .i64 8,.int .i64 n,.int .i64 d]] w fun e w' =>
   e=.returned (.tuple #[.agg #[.int .i64 p,.int .i64 (f-p)],.bool (decide (p≤f))])∧Below w.heap.size w w':=by
 have hs:shB p f (-1) 1=decide (p≤f):=by
  unfold shB
  by_cases h:p≤f
  ·rw[decide_eq_true h];exact decide_eq_true ⟨by omega,by omega⟩
  rw[decide_eq_false h];exact decide_eq_false (by omega)
 have e1:f+p*-1/1=f-p:=by omega
 have HP:=Lib.hid (fun w=>Uw p f (-1) 1 w h1 h2 f1 f2 (by omega) (by omega) (by omega) (by omega))
 rw[hs,e1] at HP
 clear hs e1
 go_enter Tryz.func118,Tryz.ntmps118
 go_wp2_with (go_at_call 156;refine(HP.out _).mono ?_;rintro e w1 ⟨rfl,hb⟩;obtain⟨hc,hf⟩:=arith.Yu hb)
 exact bodyPost_ret (v:=.tuple #[.agg #[.int .i64 p,.int .i64 (f-p)],.bool (decide (p≤f))]) (by simp[results,Tryz.results118,go_sem,hc]) rfl ⟨rfl,(by repeat (first|exact Below.refl _ _|(refine Below.setCell ?_ (by first|(simp;done)|(simp;omega)) _)|(refine Below.alloc ?_ (by first|(simp;done)|(simp;omega)) _)|(refine arith.below_drewN ?_ _)|(refine Below.trans ?_ (hb.mono (by first|(simp;done)|(simp;omega))))))⟩
end Go.Proofs.YtgigilkpndhddaaGreatDoor.clock
