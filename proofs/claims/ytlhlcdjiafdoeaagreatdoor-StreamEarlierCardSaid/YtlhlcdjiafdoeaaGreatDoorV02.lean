/- Parts of the proof. -/
import Derived.BigRegionIn
import Derived.LoopIn
import Derived.LoopNIn
import Derived.OwnWalkIn
import Derived.RangeFuncBound
import Derived.RangeFuncNested
import Derived.Shelf.Abstract
import Derived.TacticsInMore
import Derived.Test.YtlhlcdjiafdoeaaGreatDoorV01
set_option linter.all false
set_option maxRecDepth 100000
set_option maxHeartbeats 16000000
namespace Go.Proofs.YtlhlcdjiafdoeaaGreatDoor.syn
open Go.RowKit
theorem ud {F:Fence} (hd:F.depth=none) (k:Nat):F.room k:=fun d h=>by rw[hd] at h;cases h
theorem YieldAt.deep {F:Fence} (hd:F.depth=none) {m:Nat} (m':Nat) {P:Program} {l:Nat} {args:Array Value} {W:World} {R:Ending→World→Prop} (h:YieldAt F m P l args W R):YieldAt F m' P l args W R:=by
 obtain⟨fn,tmps,assign,body,hy,hR⟩:=h
 exact⟨fn,tmps,assign,body,hy,⟨hR.1,fun c cs _=>hR.2 c cs (ud hd _)⟩⟩
structure KC (n₀:Nat) (W W':World):Prop where
 below:Below n₀ W W'
 same:∀(k:Nat) (o:Obj),W.heap[k]?=some o→o.isCells=true→W'.heap[k]?=some o
theorem KC.refl (n₀:Nat) (W:World):KC n₀ W W:=⟨Below.refl _ _,fun _ _ h _=>h⟩
theorem KC.trans {n₀:Nat} {A B C:World} (h:KC n₀ A B) (k:KC n₀ B C):KC n₀ A C:=⟨h.below.trans k.below,fun i o hi ho=>k.same i o (h.same i o hi ho) ho⟩
theorem KC.alloc {n₀:Nat} {A W:World} (h:KC n₀ A W) (hn:n₀≤W.heap.size) (o:Obj):KC n₀ A (W.alloc o) :=
 h.trans ⟨(Below.refl _ _).alloc hn _,fun k x hk _=>(Below.heap_alloc W o k (Array.getElem?_eq_some_iff.1 hk).1).trans hk⟩
theorem KC.putObj {n₀:Nat} (W:World) (l:Nat) (o o':Obj) (hl:n₀≤l) (h:W.heap[l]?=some o) (hc:o.isCells=false):KC n₀ W (W.putObj l o') :=
 ⟨⟨rfl,rfl,rfl,by simp,fun k hk=>World.putObj_heap_other (fun e=>oz)⟩,fun k x hk hx=>(World.putObj_heap_other (fun e=>by subst e;rw[h] at hk;injection hk with hk;subst hk;rw[hc] at hx;cases hx)).trans hk⟩
theorem KC.of_below {n₀:Nat} {A W W':World} (h:KC n₀ A W) (hb:Below W.heap.size W W') (hn:n₀≤W.heap.size):KC n₀ A W' :=
 h.trans ⟨hb.mono hn,fun k o hk _=>(hb.block k (lt_of_block hk)).trans hk⟩
theorem Q4 {β:Type} {B:Nat} {J:β→World→Prop} (h:AbidesFrom B J) {s:β} {W:World} (hs:J s W) (o:Obj):J s (W.alloc o) :=
 h s W _ none hs (World.grownBy_alloc W o none) (fun r e=>by cases e)
end Go.Proofs.YtlhlcdjiafdoeaaGreatDoor.syn
namespace Go.Proofs.YtlhlcdjiafdoeaaGreatDoor.lite
open Go.RowKit
theorem YM {B:Nat} {a w:World} (h:Below B a w) {b o:Nat} (hp:B≤b) (u:Value):Below B a (w.setCell ⟨b,o,none⟩ u):=h.setCell (p:=⟨b,o,none⟩) hp u
theorem below_drewN {B:Nat} {a w:World} (h:Below B a w) (n:Nat):Below B a (w.drewN n):=⟨h.os,h.tape,h.output,h.size,h.block⟩
theorem Yx {W w1:World} (hb:Below W.heap.size W w1):(∀b o,b<W.heap.size→w1.cell? ⟨b,o,none⟩=W.cell? ⟨b,o,none⟩)∧(∀b o,b<W.heap.size→w1.frozen? ⟨b,o,none⟩=W.frozen? ⟨b,o,none⟩) :=
 ⟨fun b o h=>hb.cell (p:=⟨b,o,none⟩) h,fun b o h=>hb.frozen (p:=⟨b,o,none⟩) h⟩
theorem Yt (w:World) (o:Obj):(w.alloc o).heap[w.heap.size]?=some o:=by
 show(w.heap.push o)[w.heap.size]?=_
 simp
end Go.Proofs.YtlhlcdjiafdoeaaGreatDoor.lite
namespace Go.Proofs.YtlhlcdjiafdoeaaGreatDoor.index
open Go.RowKit clock
abbrev Op3:=Int × Int × Int
def Y8 (o:Op3):Bool:=if o.1=3∨o.1=4 then decide (o.2.1<1) else decide (o.1<3∨8<o.1)
def Xu (o:Op3):Bool:=decide (o.1=6∨o.1=8)
def YS (o:Op3):Bool:=decide (o.1=6∨(o.1=5∧¬o.2.1=0))
theorem uD (k n d:Int) (w:World) :
  Calls Tryz.prog 94 #[.agg #[.int .i64 k,.int .i64 n,.int .i64 d]] w fun e w'=>e=.returned (.bool (Y8 (k,n,d)))∧Below w.heap.size w w':=by
 by_cases h34:k=3∨k=4
 ·rcases h34 with rfl|rfl
  all_goals
   go_enter Tryz.func94,Tryz.ntmps94
   go_wp2
   go_ret
   exact⟨XH (by simp[Y8]),VV _⟩
 have h3:(k == 3)=false:=Yp.2 oz
 have h4:(k == 4)=false:=Yp.2 oz
 have E:Hid (Y8 (k,n,d)=decide (k<3∨8<k)):=by unfold Y8;exact Yr h34
 clear h34
 by_cases hl:k<3
 ·go_enter Tryz.func94,Tryz.ntmps94
  go_wp2
  go_ret
  exact⟨XH (by rw[E.out];simp;omega),VV _⟩
 have hl':decide (k<3)=false:=Yq hl
 go_enter Tryz.func94,Tryz.ntmps94
 go_wp2
 go_ret
 exact⟨XH (by rw[E.out];simp;omega),VV _⟩
theorem xL (k n d:Int) (w:World) :
  Calls Tryz.prog 96 #[.agg #[.int .i64 k,.int .i64 n,.int .i64 d]] w fun e w'=>e=.returned (.bool (Xu (k,n,d)))∧Below w.heap.size w w':=by
 by_cases h6:k=6
 ·subst h6
  go_enter Tryz.func96,Tryz.ntmps96
  go_wp2
  go_ret
  exact⟨XH (by simp[Xu]),VV _⟩
 have h6':(k == 6)=false:=Yp.2 h6
 have E:Hid (Xu (k,n,d)=(k == 8)):=by unfold Xu;show _=_;cases h:(k == 8)<;>simp_all
 clear h6
 go_enter Tryz.func96,Tryz.ntmps96
 go_wp2
 go_ret
 exact⟨XH (by rw[E.out]),VV _⟩
theorem xZ (k n d:Int) (w:World) :
  Calls Tryz.prog 161 #[.agg #[.int .i64 k,.int .i64 n,.int .i64 d]] w fun e w'=>e=.returned (.bool (YS (k,n,d)))∧Below w.heap.size w w':=by
 by_cases h6:k=6
 ·subst h6
  go_enter Tryz.func161,Tryz.ntmps161
  go_wp2
  go_ret
  exact⟨XH (by simp[YS]),VV _⟩
 have h6':(k == 6)=false:=Yp.2 h6
 by_cases h5:k=5
 ·subst h5
  have E:Hid (YS (5,n,d)=(n != 0)):=by unfold YS;show _=_;simp;cases h:(n != 0)<;>simp_all
  clear h6
  go_enter Tryz.func161,Tryz.ntmps161
  go_wp2
  go_ret
  exact⟨XH (by rw[E.out]),VV _⟩
 have h5':(k == 5)=false:=Yp.2 h5
 have E:Hid (YS (k,n,d)=false):=by unfold YS;show _=_;simp[h6,h5]
 clear h6 h5
 go_enter Tryz.func161,Tryz.ntmps161
 go_wp2
 go_ret
 exact⟨XH (by rw[E.out]),VV _⟩
def XE (o:Op3) (n:Int):Option Int :=
 if o.1=3 then some (n/o.2.1)
 else if o.1=4 then (if n*o.2.1≤1099511627776 then some (n*o.2.1) else none)
 else if o.1=6∨o.1=8 then some (n-1)
 else if o.1=7 then (if n<1099511627776 then some (n+1) else none)
 else some n
def Za6 (x:Option Int) (e:Ending):Prop:=match x with
 | some t=>e=.returned (.tuple #[.int .i64 t,.bool true])
 | none=>∃t,e=.returned (.tuple #[.int .i64 t,.bool false])
theorem qH {n N:Int} (hn:0≤n) (hN:1≤N):0≤n/N∧n/N≤n:=by
 have h1:=Int.ediv_nonneg hn (show 0≤N by omega)
 have h2:=Int.ediv_le_self N hn
 exact⟨h1,h2⟩
theorem Kt (k N d n:Int) (w:World) (hw:Y8 (k,N,d)=false) (h0:0≤n) (h1:n≤1099511627776) (hb:¬(n=0∧Xu (k,N,d)=true)) :
  Calls Tryz.prog 97 #[.agg #[.int .i64 k,.int .i64 N,.int .i64 d],.int .i64 n] w fun e w'=>Za6 (XE (k,N,d) n) e∧Below w.heap.size w w':=by
 by_cases h3:k=3
 ·subst h3
  have hN:1≤N:=by simp[Y8] at hw;omega
  have hq:=qH h0 hN
  have q1:IntKind.i64.wrap (n.tdiv N)=n/N:=by rw[Int.tdiv_eq_ediv_of_nonneg h0,IntWalk.i64_in _ oz]
  have q2:(N == 0)=false:=Yp.2 oz
  have q3:¬N=0:=oz
  have E:Hid (XE (3,N,d) n=some (n/N)):=rfl
  clear hw hb hq
  go_enter Tryz.func97,Tryz.ntmps97
  go_wp2
  go_ret2
  exact⟨by rw[E.out];rfl,(by repeat (first|(with_reducible exact Below.refl _ _)|((with_reducible refine YM ?_ ?_ _);(rotate_left;focus (first|omega|(simp;done)|(simp;omega))))|((with_reducible refine Below.alloc ?_ ?_ _);(rotate_left;focus (first|omega|(simp;done)|(simp;omega))))|(with_reducible refine below_drewN ?_ _)|(with_reducible refine Below.drew ?_)))⟩
 have k3:(k == 3)=false:=Yp.2 h3
 by_cases h4:k=4
 ·subst h4
  have hN:1≤N:=by simp[Y8] at hw;omega
  have hq:=qH (n:=1099511627776) oz hN
  have q1:IntKind.i64.wrap ((1099511627776:Int).tdiv N)=1099511627776/N:=by rw[Int.tdiv_eq_ediv_of_nonneg oz,IntWalk.i64_in _ oz]
  have q2:(N == 0)=false:=Yp.2 oz
  have q3:¬N=0:=oz
  by_cases hm:n*N≤1099511627776
  ·have hle:n≤1099511627776/N:=(Int.le_ediv_iff_mul_le oz).2 hm
   have hge:=Int.mul_nonneg h0 (show 0≤N by omega)
   have v1:IntKind.i64.wrap (n*N)=n*N:=IntWalk.i64_in _ oz
   have E:Hid (XE (4,N,d) n=some (n*N)):=by unfold XE;show _=_;simp[hm]
   clear hw hb hm hge k3
   go_enter Tryz.func97,Tryz.ntmps97
   go_wp2
   go_quiet (fail)
   go_wp2
   go_ret2
   exact⟨by rw[E.out];rfl,arith.below_drewN (VV _) _⟩
  have hle:¬n≤1099511627776/N:=fun h=>hm ((Int.le_ediv_iff_mul_le oz).1 h)
  have hle':1099511627776/N<n:=oz
  have f1:decide (n≤1099511627776/N)=false:=Yq hle
  have E:Hid (XE (4,N,d) n=none):=by unfold XE;show _=_;simp[hm]
  clear hw hb hm hle k3
  go_enter Tryz.func97,Tryz.ntmps97
  go_wp2
  go_quiet (fail)
  go_wp2
  go_ret2
  exact⟨by rw[E.out];exact⟨_,rfl⟩,arith.below_drewN (VV _) _⟩
 have k4:(k == 4)=false:=Yp.2 h4
 by_cases h68:k=6∨k=8
 ·have hn:1≤n:=by
   have:Xu (k,N,d)=true:=by simp[Xu,h68]
   have:¬n=0:=fun h=>hb ⟨h,this⟩
   omega
  have E:Hid (XE (k,N,d) n=some (n-1)):=by unfold XE;show _=_;simp[h3,h4,h68]
  clear hw hb h3 h4
  rcases h68 with rfl|rfl
  all_goals
   go_enter Tryz.func97,Tryz.ntmps97
   go_wp2
   go_ret2
   exact⟨by rw[E.out];rfl,(by repeat (first|(with_reducible exact Below.refl _ _)|((with_reducible refine YM ?_ ?_ _);(rotate_left;focus (first|omega|(simp;done)|(simp;omega))))|((with_reducible refine Below.alloc ?_ ?_ _);(rotate_left;focus (first|omega|(simp;done)|(simp;omega))))|(with_reducible refine below_drewN ?_ _)|(with_reducible refine Below.drew ?_)))⟩
 have k6:(k == 6)=false:=Yp.2 oz
 have k8:(k == 8)=false:=Yp.2 oz
 by_cases h7:k=7
 ·subst h7
  by_cases hm:n<1099511627776
  ·have E:Hid (XE (7,N,d) n=some (n+1)):=by unfold XE;show _=_;simp[hm]
   clear hw hb
   go_enter Tryz.func97,Tryz.ntmps97
   go_wp2
   go_ret2
   exact⟨by rw[E.out];rfl,(by repeat (first|(with_reducible exact Below.refl _ _)|((with_reducible refine YM ?_ ?_ _);(rotate_left;focus (first|omega|(simp;done)|(simp;omega))))|((with_reducible refine Below.alloc ?_ ?_ _);(rotate_left;focus (first|omega|(simp;done)|(simp;omega))))|(with_reducible refine below_drewN ?_ _)|(with_reducible refine Below.drew ?_)))⟩
  have E:Hid (XE (7,N,d) n=none):=by unfold XE;show _=_;simp[hm]
  clear hw hb
  go_enter Tryz.func97,Tryz.ntmps97
  go_wp2
  go_ret2
  exact⟨by rw[E.out];exact⟨_,rfl⟩,(by repeat (first|(with_reducible exact Below.refl _ _)|((with_reducible refine YM ?_ ?_ _);(rotate_left;focus (first|omega|(simp;done)|(simp;omega))))|((with_reducible refine Below.alloc ?_ ?_ _);(rotate_left;focus (first|omega|(simp;done)|(simp;omega))))|(with_reducible refine below_drewN ?_ _)|(with_reducible refine Below.drew ?_)))⟩
 have k7:(k == 7)=false:=Yp.2 h7
 have E:Hid (XE (k,N,d) n=some n):=by unfold XE;show _=_;simp[h3,h4,h68,h7]
 clear hw hb h3 h4 h68 h7
 go_enter Tryz.func97,Tryz.ntmps97
 go_wp2
 go_ret2
 exact⟨by rw[E.out];rfl,(by repeat (first|(with_reducible exact Below.refl _ _)|((with_reducible refine YM ?_ ?_ _);(rotate_left;focus (first|omega|(simp;done)|(simp;omega))))|((with_reducible refine Below.alloc ?_ ?_ _);(rotate_left;focus (first|omega|(simp;done)|(simp;omega))))|(with_reducible refine below_drewN ?_ _)|(with_reducible refine Below.drew ?_)))⟩
def OpA (w:World) (a:Option Addr) (l:List Op3):Prop:=∀k,k<l.length→∃b off,a=some ⟨b,off,none⟩∧b<w.heap.size ∧
 w.cell? ⟨b,off+k*3,none⟩=some (.int .i64 (l.getD k (0,0,0)).1)∧w.cell? ⟨b,off+k*3+1,none⟩=some (.int .i64 (l.getD k (0,0,0)).2.1)∧w.cell? ⟨b,off+k*3+2,none⟩=some (.int .i64 (l.getD k (0,0,0)).2.2)
theorem OpA.below {B:Nat} {w w1:World} {a:Option Addr} {l:List Op3} (h:OpA w a l) (hb:Below B w w1) (hB:w.heap.size≤B):OpA w1 a l:=by
 intro k hk
 obtain⟨b,off,rfl,h1,h2,h3,h4⟩:=h k hk
 have hlt:b<B:=oz
 exact⟨b,off,rfl,Yo h1 hb.size,(hb.cell (p:=⟨b,_,none⟩) hlt).trans h2,(hb.cell (p:=⟨b,_,none⟩) hlt).trans h3,(hb.cell (p:=⟨b,_,none⟩) hlt).trans h4⟩
theorem zz {P:Op3→Bool} {l:List Op3} {k:Nat} (hk:k<l.length) (h:(l.take k).any P=false) (h2:P (l.getD k (0,0,0))=false):(l.take (k+1)).any P=false:=by
 rw[List.take_succ_eq_append_getElem hk,List.any_append,h,←plain.getD_lt (0,0,0) hk];simp only[List.any_cons,List.any_nil,h2,Bool.or_false]
theorem jl {P:Op3→Bool} {l:List Op3} {k:Nat} (hk:k<l.length) (h2:P (l.getD k (0,0,0))=true):l.any P=true:=by
 rw[List.any_eq_true];rw[plain.getD_lt _ hk] at h2;exact⟨_,List.getElem_mem hk,h2⟩
theorem UZ
  (l:List Op3) (a:Option Addr) (cap:Nat) (w:World) (hl:l.length≤9223372036854775807) (hA:OpA w a l) :
  Calls Tryz.prog 130 #[.slice a l.length cap,.func (.func 94) #[] #[]] w fun e w'=>(∃i:Int,e=.returned (.int .i64 i)∧l.any Y8=decide (0≤i))∧Below w.heap.size w w':=by
 have HP:=Lib.hid uD
 have HA:=Lib.hid hA
 clear hA
 go_enter Tryz.func130,Tryz.ntmps130
 go_wp2
 go_loopw [8] (fun i wr=>∃(k:Nat),k≤l.length∧i=.int .i64 k∧Hid (Below w.heap.size w wr∧(l.take k).any Y8=false)) (fun i _=>l.length-(intOf i).toNat)
 case atStart=>exact⟨0,oz,rfl,Below.refl _ _,by simp⟩
 obtain⟨k,hk,rfl,hrel⟩:=hrel
 have HR:=hrel
 clear hrel
 by_cases hlt:k<l.length
 ·obtain⟨b,off,rfl,hb,c0,c1,c2⟩:=(HA.out.below HR.out.1 (Yn _)) k hlt
  have HC:=Lib.hid (HP.out (l.getD k (0,0,0)).1 (l.getD k (0,0,0)).2.1 (l.getD k (0,0,0)).2.2)
  have eta:((l.getD k (0,0,0)).1,(l.getD k (0,0,0)).2.1,(l.getD k (0,0,0)).2.2)=l.getD k (0,0,0):=rfl
  rw[eta] at HC
  obtain⟨x,hx⟩:∃x,l.getD k (0,0,0)=x:=⟨_,rfl⟩
  have HX:=Lib.hid hx
  rw[hx] at c0 c1 c2 HC
  clear hx eta
  cases hpx:Y8 x with
  | true =>
   rw[hpx] at HC
   go_wp2_with (go_at_call 94;(with_reducible refine(HC.out _).mono ?_);rintro e w1 ⟨rfl,hb1⟩;have HB1:=Lib.hid hb1;clear hb1)
   go_ret
   exact⟨⟨_,rfl,by rw[jl hlt (by rw[HX.out,hpx])];simp⟩,HR.out.1.trans (HB1.out.mono HR.out.1.size)⟩
  | false =>
   rw[hpx] at HC
   go_wp2_with (go_at_call 94;(with_reducible refine(HC.out _).mono ?_);rintro e w1 ⟨rfl,hb1⟩;have HB1:=Lib.hid hb1;clear hb1)
   go_roundw
   case rel=>exact⟨k+1,oz,by go_num,HR.out.1.trans (HB1.out.mono HR.out.1.size),zz (P:=_) hlt HR.out.2 (by rw[HX.out,hpx])⟩
   simp[intOf];omega
 have hk':k=l.length:=oz
 subst hk'
 have E:Hid (l.any Y8=false):=by have:=HR.out.2;rw[List.take_length] at this;exact this
 go_wp2
 go_ret
 exact⟨⟨_,rfl,by rw[E.out];decide⟩,HR.out.1⟩
theorem QS
  (l:List Op3) (a:Option Addr) (cap:Nat) (w:World) (hl:l.length≤9223372036854775807) (hA:OpA w a l) :
  Calls Tryz.prog 93 #[.slice a l.length cap,.func (.func 94) #[] #[]] w fun e w'=>e=.returned (.bool (l.any Y8))∧Below w.heap.size w w':=by
 have HC:=Lib.hid (UZ l a cap w hl hA)
 clear hA
 go_enter Tryz.func93,Tryz.ntmps93
 go_wp2_with (go_at_call 130;(with_reducible refine HC.out.mono ?_);rintro e w1 ⟨⟨i,rfl,hi⟩,hb1⟩;have HI:=Lib.hid hi;have HB1:=Lib.hid hb1;clear hi hb1)
 go_ret
 exact⟨XH (by rw[HI.out]),HB1.out⟩
theorem Uv
  (l:List Op3) (a:Option Addr) (cap:Nat) (w:World) (hl:l.length≤9223372036854775807) (hA:OpA w a l) :
  Calls Tryz.prog 130 #[.slice a l.length cap,.func (.func 161) #[] #[]] w fun e w'=>(∃i:Int,e=.returned (.int .i64 i)∧l.any YS=decide (0≤i))∧Below w.heap.size w w':=by
 have HP:=Lib.hid xZ
 have HA:=Lib.hid hA
 clear hA
 go_enter Tryz.func130,Tryz.ntmps130
 go_wp2
 go_loopw [8] (fun i wr=>∃(k:Nat),k≤l.length∧i=.int .i64 k∧Hid (Below w.heap.size w wr∧(l.take k).any YS=false)) (fun i _=>l.length-(intOf i).toNat)
 case atStart=>exact⟨0,oz,rfl,Below.refl _ _,by simp⟩
 obtain⟨k,hk,rfl,hrel⟩:=hrel
 have HR:=hrel
 clear hrel
 by_cases hlt:k<l.length
 ·obtain⟨b,off,rfl,hb,c0,c1,c2⟩:=(HA.out.below HR.out.1 (Yn _)) k hlt
  have HC:=Lib.hid (HP.out (l.getD k (0,0,0)).1 (l.getD k (0,0,0)).2.1 (l.getD k (0,0,0)).2.2)
  have eta:((l.getD k (0,0,0)).1,(l.getD k (0,0,0)).2.1,(l.getD k (0,0,0)).2.2)=l.getD k (0,0,0):=rfl
  rw[eta] at HC
  obtain⟨x,hx⟩:∃x,l.getD k (0,0,0)=x:=⟨_,rfl⟩
  have HX:=Lib.hid hx
  rw[hx] at c0 c1 c2 HC
  clear hx eta
  cases hpx:YS x with
  | true =>
   rw[hpx] at HC
   go_wp2_with (go_at_call 161;(with_reducible refine(HC.out _).mono ?_);rintro e w1 ⟨rfl,hb1⟩;have HB1:=Lib.hid hb1;clear hb1)
   go_ret
   exact⟨⟨_,rfl,by rw[jl hlt (by rw[HX.out,hpx])];simp⟩,HR.out.1.trans (HB1.out.mono HR.out.1.size)⟩
  | false =>
   rw[hpx] at HC
   go_wp2_with (go_at_call 161;(with_reducible refine(HC.out _).mono ?_);rintro e w1 ⟨rfl,hb1⟩;have HB1:=Lib.hid hb1;clear hb1)
   go_roundw
   case rel=>exact⟨k+1,oz,by go_num,HR.out.1.trans (HB1.out.mono HR.out.1.size),zz (P:=_) hlt HR.out.2 (by rw[HX.out,hpx])⟩
   simp[intOf];omega
 have hk':k=l.length:=oz
 subst hk'
 have E:Hid (l.any YS=false):=by have:=HR.out.2;rw[List.take_length] at this;exact this
 go_wp2
 go_ret
 exact⟨⟨_,rfl,by rw[E.out];decide⟩,HR.out.1⟩
theorem Vi
  (l:List Op3) (a:Option Addr) (cap:Nat) (w:World) (hl:l.length≤9223372036854775807) (hA:OpA w a l) :
  Calls Tryz.prog 93 #[.slice a l.length cap,.func (.func 161) #[] #[]] w fun e w'=>e=.returned (.bool (l.any YS))∧Below w.heap.size w w':=by
 have HC:=Lib.hid (Uv l a cap w hl hA)
 clear hA
 go_enter Tryz.func93,Tryz.ntmps93
 go_wp2_with (go_at_call 130;(with_reducible refine HC.out.mono ?_);rintro e w1 ⟨⟨i,rfl,hi⟩,hb1⟩;have HI:=Lib.hid hi;have HB1:=Lib.hid hb1;clear hi hb1)
 go_ret
 exact⟨XH (by rw[HI.out]),HB1.out⟩
theorem vD (l:List Op3) (a:Option Addr) (cap:Nat) (w:World) (hl:l.length≤9223372036854775807) (hA:OpA w a l) :
  Calls Tryz.prog 146 #[.slice a l.length cap] w fun e w'=>e=.returned (.bool (l.any YS))∧Below w.heap.size w w':=by
 have HC:=Lib.hid (Vi l a cap w hl hA)
 clear hA
 go_enter Tryz.func146,Tryz.ntmps146
 go_wp2_with (go_at_call 93;(with_reducible refine HC.out.mono ?_);rintro e w1 ⟨rfl,hb1⟩;have HB1:=Lib.hid hb1;clear hb1)
 go_ret
 exact⟨rfl,HB1.out⟩
open Go.RowKit Go.Shelf clock syn
attribute [local go_sem] Oper.semAt_some
structure KB (n₀ Bs:Nat) (W W':World):Prop where
 below:Below n₀ W W'
 box:∀(o:Obj),W.heap[Bs]?=some o→o.isCells=true→W'.heap[Bs]?=some o
theorem KB.refl (n₀ Bs:Nat) (W:World):KB n₀ Bs W W:=⟨Below.refl _ _,fun _ h _=>h⟩
theorem KB.trans {n₀ Bs:Nat} {A B C:World} (h:KB n₀ Bs A B) (k:KB n₀ Bs B C):KB n₀ Bs A C:=⟨h.below.trans k.below,fun o ho hc=>k.box o (h.box o ho hc) hc⟩
theorem KB.alloc {n₀ Bs:Nat} {A W:World} (h:KB n₀ Bs A W) (hn:n₀≤W.heap.size) (o:Obj):KB n₀ Bs A (W.alloc o) :=
 h.trans ⟨(Below.refl _ _).alloc hn _,fun x hk _=>(Below.heap_alloc W o Bs (Array.getElem?_eq_some_iff.1 hk).1).trans hk⟩
theorem KB.putObj {n₀ Bs:Nat} (W:World) (l:Nat) (o o':Obj) (hl:n₀≤l) (h:W.heap[l]?=some o) (hc:o.isCells=false):KB n₀ Bs W (W.putObj l o') :=
 ⟨⟨rfl,rfl,rfl,by simp,fun k hk=>World.putObj_heap_other (fun e=>oz)⟩,fun x hk hx=>(World.putObj_heap_other (fun e=>by subst e;rw[h] at hk;injection hk with hk;subst hk;rw[hc] at hx;cases hx)).trans hk⟩
theorem KB.of_below {n₀ Bs:Nat} {A W W':World} (h:KB n₀ Bs A W) (hb:Below W.heap.size W W') (hn:n₀≤W.heap.size):KB n₀ Bs A W' :=
 h.trans ⟨hb.mono hn,fun o hk _=>(hb.block Bs (lt_of_block hk)).trans hk⟩
theorem KB.setCell {n₀ Bs:Nat} {A W:World} (h:KB n₀ Bs A W) {b:Nat} (hn:n₀≤b) (hne:Bs≠b) (v:Value):KB n₀ Bs A (W.setCell ⟨b,0,none⟩ v) :=
 h.trans ⟨(Below.refl _ _).setCell (p:=⟨b,0,none⟩) hn v,fun o hk _=>((grownBy_setCell' W b v).block Bs (lt_of_block hk) (by simp;exact hne)).trans hk⟩
structure BX (l:List Op3) where
 i:Int
 k:Int
 n:Int
 d:Int
 mem:(k,n,d)∈l
def BX.o {l:List Op3} (x:BX l):Op3:=(x.k,x.n,x.d)
def BX.vs {l:List Op3} (x:BX l):Array Value:=#[.int .i64 x.i,.agg #[.int .i64 x.k,.int .i64 x.n,.int .i64 x.d]]
def Zb6 (n₀ Bs:Nat) (l:List Op3) (J:List (BX l)→World→Prop) (W:World) (v:Value) (wr:World):Prop :=
 ∃(k:Nat) (ys:List (BX l)),v=.int .i64 ((k:Int)-1)∧k≤l.length∧ys.map (·.o)++(l.take k).reverse=l.reverse∧J ys wr∧KB n₀ Bs W wr
theorem gS {l:List Op3} {j:Nat} (h:j<l.length):(l.take (j+1)).reverse=l.getD j (0,0,0)::(l.take j).reverse:=by
 rw[List.take_succ_eq_append_getElem h,List.reverse_append,←plain.getD_lt (0,0,0) h];rfl
theorem EK {W0:World} (F:Fence) (hd:F.depth=none) (hG:F.fn 131) (hro:F.round=none) (n l B Bs:Nat) (ops:List Op3) (a:Option Addr) (cap:Nat)
  (hlen:ops.length≤9223372036854775807) (hA:OpA W0 a ops) (J Jx:List (BX ops)→World→Prop) (hJ:AbidesFrom B J)
  (hY:∀m pre x W,J pre W→pre.length<ops.length→YieldAt F m Tryz.prog l x.vs W fun e W'=>(e=.returned (.bool true)∧J (pre++[x]) W'∧KB W0.heap.size Bs W W')∨(e=.returned (.bool false)∧Jx (pre++[x]) W'))
  (W:World) (hB:Below W0.heap.size W0 W) (hbx:Boxed W Bs 73 (.slice a ops.length cap)) (h0:J [] W) :
  CallsIn F n Tryz.prog 131 #[.func (.yield l) #[] #[],.pointer (some ⟨Bs,0,none⟩)] W fun e W'=>(∃v,e=.returned v) ∧
   ((∃xs:List (BX ops),xs.map (·.o)=ops.reverse∧J xs W')∨(∃pre:List (BX ops),pre.map (·.o) <+: ops.reverse∧Jx pre W')):=by
 have hdd:∀k:Nat,(F.depth.isSome=true→1≤k):=fun k h=>by rw[hd] at h;cases h
 have HA:=Lib.hid hA
 have HB:=Lib.hid hB
 have HJ0:=Lib.hid h0
 have HBX:=Lib.hid hbx
 have hcx:=hbx.cell
 have hsz0:=hB.size
 have v0:IntKind.i64.wrap ((ops.length:Int)-1)=(ops.length:Int)-1:=IntWalk.i64_in _ oz
 have HY:=Lib.hid hY
 clear hA hB h0 hbx hY
 refine callsIn_of_wp Tryz.func131 rfl hG ?_ hro
 simp only[Tryz.ntmps131,List.size_toArray,List.length_cons,List.length_nil,Nat.reduceAdd,Nat.reduceSub,Array.replicate_succ,Array.replicate_zero,List.push_toArray,List.append_toArray,List.nil_append,List.cons_append]
 gi_wp2
 clear hcx
 gi_loopw [3] (fun v wr=>Hid (Zb6 W0.heap.size Bs ops J W v wr)) (fun i _=>(intOf i+1).toNat)
 case atStart=>exact⟨ops.length,[],by first|rfl|(rw[v0])|(go_num;rw[v0]),Yn _,by simp,HJ0.out,KB.refl _ _ _⟩
 obtain⟨k,ys,hv,hk,hys,hj,hkc⟩:=hrel.out
 clear hrel
 have hbw:Below W0.heap.size W0 wr:=HB.out.trans hkc.below
 have HBW:=Lib.hid hbw
 have HK:=Lib.hid hkc
 have HJY:=Lib.hid hj
 have hszw:=hbw.size
 have hcx:wr.cell? ⟨Bs,0,none⟩=some (.slice a ops.length cap):=Boxed.cell (t:=73) (hkc.box _ HBX.out rfl)
 cases k with
 | zero =>
  obtain rfl:=hv
  have e1:((0:Nat):Int)-1=-1:=rfl
  have HYS:=Lib.hid (show ys.map (·.o)=ops.reverse by simpa using hys)
  clear hbw hkc hj hys
  try rw[e1]
  gi_wp2
  go_end0
  exact⟨⟨_,rfl⟩,.inl ⟨ys,HYS.out,HJY.out⟩⟩
 | succ j =>
  have e1:((j+1:Nat):Int)-1=(j:Int):=oz
  rw[e1] at hv
  obtain rfl:=hv
  clear e1
  have hjl:j<ops.length:=oz
  obtain⟨b,off,rfl,hb0,c0,c1,c2⟩:=(HA.out.below hbw (Yn _)) j hjl
  have hmem:ops.getD j (0,0,0)∈ops:=by rw[plain.getD_lt _ hjl];exact List.getElem_mem hjl
  rw[gS hjl] at hys
  obtain⟨o,ho⟩:∃o,ops.getD j (0,0,0)=o:=⟨_,rfl⟩
  rw[ho] at c0 c1 c2 hys hmem
  clear ho
  obtain⟨ok,on,od⟩:=o
  simp only at c0 c1 c2
  have hlys:=congrArg List.length hys
  simp only[List.length_append,List.length_map,List.length_cons,List.length_reverse] at hlys
  obtain⟨X,hX1,hX2⟩:∃X:BX ops,X.vs=#[.int .i64 (j:Int),.agg #[.int .i64 ok,.int .i64 on,.int .i64 od]]∧X.o=(ok,on,od):=⟨⟨j,ok,on,od,hmem⟩,rfl,rfl⟩
  obtain⟨fn,tmps,assign,body,hy,hR⟩:=HY.out (n-1) ys X wr hj oz
  rw[hX1] at hy
  have HR:=Lib.hid hR
  have HX2:=Lib.hid hX2
  have HYS:=Lib.hid hys
  clear hbw hkc hj hys hR hX1 hX2 hlys hmem
  gi_wp2
  refine HR.out.mono ?_
  rintro e W1 (⟨rfl,hJ1,hk1⟩|⟨rfl,hJx⟩)
  ·have HJ1:=Lib.hid hJ1
   have HK1:=Lib.hid (HK.out.trans hk1)
   clear hJ1 hk1
   gi_wp2
   go_roundw
   case rel=>exact⟨j,ys++[X],by go_num,oz,by rw[List.map_append,←HYS.out];simp[HX2.out],HJ1.out,HK1.out⟩
   first|(simp[intOf];done)|(simp[intOf];omega)
  gi_wp2
  refine bodyPost_ret (results_none rfl _ _ _) rfl ?_
  refine⟨⟨_,rfl⟩,.inr ⟨ys++[X],?_,hJx⟩⟩
  refine⟨(ops.take j).reverse,?_⟩
  rw[List.map_append,←HYS.out];simp[HX2.out]
theorem Ks {W0:World} (F:Fence) (hd:F.depth=none) (hG:F.fn 131) (hro:F.round=none) (n Bs:Nat) (ops:List Op3) (a:Option Addr) (cap:Nat)
  (hlen:ops.length≤9223372036854775807) (hA:OpA W0 a ops) (w:World) (hB:Below W0.heap.size W0 w) (hbx:Boxed w Bs 73 (.slice a ops.length cap)) :
  SeqStopsK F n Tryz.prog 131 #[.pointer (some ⟨Bs,0,none⟩)] (fun x:BX ops=>x.vs) (KB W0.heap.size Bs) (fun xs=>xs.map (·.o)=ops.reverse) (fun pre=>pre.map (·.o) <+: ops.reverse) ops.length w:=fun l J Jx W hW hJ hJx hY h0 =>
 EK F hd hG hro n l W.heap.size Bs ops a cap hlen hA J Jx hJ (fun m pre x W hj hl=>YieldAt.deep hd m (hY pre x W hj hl)) W (hB.trans (hW.mono hB.size)) ((hW.block Bs hbx.lt).trans hbx) h0
theorem EL {w:World} (a:Option Addr) (n c:Nat):Calls Tryz.prog 95 #[.slice a n c] w fun e w'=>e=.returned (.func (.func 131) #[] #[.pointer (some ⟨w.heap.size,0,none⟩)])∧w'=w.alloc (.cells #[.slice a n c] 73):=by
 go_enter Tryz.func95,Tryz.ntmps95
 go_wp2
 go_ret
 exact⟨rfl,rfl⟩
open Go.RowKit Go.Shelf clock syn lite
attribute [local go_sem] Oper.semAt_some
abbrev xu:=Int × Int × Int
def Xj (o:Op3) (n:Int):Except xu Int :=
 if n=0∧Xu o=true then .error (0,o.2.1,2) else match XE o n with
  | some t=>.ok t
  | none=>.error (0,0,0)
def Xb:List Op3→Int→Except xu Int
 | [],n=>.ok n
 | o::r,n=>match Xj o n with
  | .ok t=>Xb r t
  | .error e=>.error e
def gk:Except xu Int→xu
 | .ok m=>(m,0,1)
 | .error e=>e
def XT (l:List Op3) (n:Int):xu :=
 if n<0∨1099511627776<n∨l.any Y8=true then (0,0,0) else gk (Xb l.reverse n)
theorem xK (o:Op3):∀(p:List Op3) (n:Int),Xb (p++[o]) n=match Xb p n with|.ok t=>Xj o t|.error e=>.error e:=by
 intro p
 induction p with
 | nil=>intro n;simp only[List.nil_append,Xb];cases Xj o n<;>rfl
 | cons x p ih =>
  intro n
  simp only[List.cons_append,Xb]
  cases Xj x n with
  | ok t=>exact ih t
  | error e=>rfl
theorem EJ {e:xu}:∀(p q:List Op3) (n:Int),Xb p n=.error e→Xb (p++q) n=.error e:=by
 intro p
 induction p with
 | nil=>intro q n h;simp[Xb] at h
 | cons x p ih =>
  intro q n h
  simp only[List.cons_append,Xb] at h ⊢
  cases hs:Xj x n with
  | ok t=>rw[hs] at h;exact ih q t h
  | error e'=>rw[hs] at h;exact h
theorem Gt {o:Op3} {n t:Int} (hw:Y8 o=false) (h0:0≤n) (h1:n≤1099511627776) (hb:¬(n=0∧Xu o=true)) (h:XE o n=some t):0≤t∧t≤1099511627776:=by
 obtain⟨k,N,d⟩:=o
 unfold XE at h
 simp only[Y8,Xu] at hw hb h
 split at h
 ·rename_i h3
  rw[Ys (Or.inl h3)] at hw
  have hN:1≤N:=by simp at hw;omega
  have:=qH h0 hN
  injection h with h;omega
 split at h
 ·rename_i h4
  rw[Ys (Or.inr h4)] at hw
  have hN:1≤N:=by simp at hw;omega
  have:=Int.mul_nonneg h0 (show 0≤N by omega)
  split at h
  ·injection h with h;omega
  cases h
 split at h
 ·rename_i h68
  injection h with h
  simp[h68] at hb
  omega
 split at h
 ·split at h
  ·injection h with h;omega
  cases h
 injection h with h;omega
def T3i (a:xu):Value:=.tuple #[.int .i64 a.1,.int .i64 a.2.1,.int .i64 a.2.2]
theorem eG {P:Op3→Bool} {l:List Op3} {o:Op3} (h:l.any P=false) (hm:o∈l):P o=false:=by
 cases hp:P o with
 | false=>rfl
 | true=>rw[List.any_eq_true.2 ⟨o,hm,hp⟩] at h;cases h
theorem Yw {W w1:World} {B:Nat} {t:TypeId} {v:Value} (hb:Below W.heap.size W w1) (h:Boxed W B t v):Boxed w1 B t v:=(hb.block _ h.lt).trans h
theorem U6 {w:World} {b:Nat} {v0 v1 v2:Value} {t:TypeId} (h:w.heap[b]?=some (.cells #[v0,v1,v2] t (0,0))) :
  (w.cell? ⟨b,0,none⟩=some v0∧w.cell? ⟨b,1,none⟩=some v1∧w.cell? ⟨b,2,none⟩=some v2)∧b<w.heap.size:=by
 refine⟨⟨?_,?_,?_⟩,(Array.getElem?_eq_some_iff.1 h).1⟩<;>simp[World.cell?,h]
theorem Ke {w W:World} {ta tb tc:TypeId} {v1 v2 v3:Value} (y1:Boxed W (w.heap.size+1) ta v1) (y2:Boxed W (w.heap.size+1+1) tb v2) (y3:Boxed W (w.heap.size+1+1+1) tc v3) (hb:Below w.heap.size w W) (u1 u2 u3:Value) :
  ((Boxed (((W.setCell ⟨w.heap.size+1,0,none⟩ u1).setCell ⟨w.heap.size+1+1,0,none⟩ u2).setCell ⟨w.heap.size+1+1+1,0,none⟩ u3) (w.heap.size+1) ta u1 ∧
   Boxed (((W.setCell ⟨w.heap.size+1,0,none⟩ u1).setCell ⟨w.heap.size+1+1,0,none⟩ u2).setCell ⟨w.heap.size+1+1+1,0,none⟩ u3) (w.heap.size+1+1) tb u2) ∧
   Boxed (((W.setCell ⟨w.heap.size+1,0,none⟩ u1).setCell ⟨w.heap.size+1+1,0,none⟩ u2).setCell ⟨w.heap.size+1+1+1,0,none⟩ u3) (w.heap.size+1+1+1) tc u3) ∧
  Below w.heap.size w (((W.setCell ⟨w.heap.size+1,0,none⟩ u1).setCell ⟨w.heap.size+1+1,0,none⟩ u2).setCell ⟨w.heap.size+1+1+1,0,none⟩ u3) ∧
  KeepsOthers W (((W.setCell ⟨w.heap.size+1,0,none⟩ u1).setCell ⟨w.heap.size+1+1,0,none⟩ u2).setCell ⟨w.heap.size+1+1+1,0,none⟩ u3) :=
 ⟨⟨⟨((y1.set u1).other oz u2).other oz u3,(((y2.other oz u1).set u2).other oz u3)⟩,(((y3.other oz u1).other oz u2).set u3)⟩,
  ((hb.setCell (p:=⟨w.heap.size+1,0,none⟩) (by simp) _).setCell (p:=⟨w.heap.size+1+1,0,none⟩) (by simp;omega) _).setCell (p:=⟨w.heap.size+1+1+1,0,none⟩) (by simp;omega) _,
  ((KeepsOthers.setCell _ _ _).trans (KeepsOthers.setCell _ _ _)).trans (KeepsOthers.setCell _ _ _)⟩
theorem Vz {W w2:World} (hb2:Below W.heap.size W w2) (B:Nat):KeepsFrom B W w2:=⟨hb2.size,fun k o _ hk _=>(hb2.block k (lt_of_block hk)).trans hk⟩
def BI (w:World) (l:List Op3) (n0:Int) (pre:List (BX l)) (W:World):Prop :=
 ∃m:Int,(((Boxed W w.heap.size 2 (.int .i64 m)∧Boxed W (w.heap.size+1) 2 (.int .i64 0))∧Boxed W (w.heap.size+1+1) 2 (.int .i64 0))∧Boxed W (w.heap.size+1+1+1) 3 (.int .i64 0))∧Below w.heap.size w W∧(0≤m∧m≤1099511627776∧Xb (pre.map (·.o)) n0=.ok m)
def BIx (w:World) (l:List Op3) (n0:Int) (c:Code) (pre:List (BX l)) (W:World):Prop :=
 ∃x y z:Int,((Boxed W (w.heap.size+1) 2 (.int .i64 x)∧Boxed W (w.heap.size+1+1) 2 (.int .i64 y))∧Boxed W (w.heap.size+1+1+1) 3 (.int .i64 z))∧Below w.heap.size w W∧(c=.ret∧Xb (pre.map (·.o)) n0=.error (x,y,z))
theorem Zbi {w W0:World} (h:w.heap.size≤W0.heap.size) (l:List Op3) (n0:Int):OwnFrom W0.heap.size (BI w l n0):=by
 intro pre X Y row hs hg hrw
 obtain⟨m,⟨⟨⟨h0,h1⟩,h2⟩,h3⟩,h4,h5⟩:=hs
 exact⟨m,⟨⟨⟨boxed_own _ _ (fun(_:Unit)=>Value.int .i64 m) () X Y row h0 hg (fun r e=>(hrw r e).2),boxed_own _ _ (fun(_:Unit)=>Value.int .i64 0) () X Y row h1 hg (fun r e=>(hrw r e).2)⟩,
  boxed_own _ _ (fun(_:Unit)=>Value.int .i64 0) () X Y row h2 hg (fun r e=>(hrw r e).2)⟩,boxed_own _ _ (fun(_:Unit)=>Value.int .i64 0) () X Y row h3 hg (fun r e=>(hrw r e).2)⟩,
  ownFrom_below (β:=Unit) (Yn _) h () X Y row h4 hg hrw,h5⟩
theorem eM {w W0:World} (h:w.heap.size≤W0.heap.size) (l:List Op3) (n0:Int) (c:Code):OwnFrom W0.heap.size (BIx w l n0 c):=by
 intro pre X Y row hs hg hrw
 obtain⟨x,y,z,⟨⟨h1,h2⟩,h3⟩,h4,h5⟩:=hs
 exact⟨x,y,z,⟨⟨boxed_own _ _ (fun(_:Unit)=>Value.int .i64 x) () X Y row h1 hg (fun r e=>(hrw r e).2),boxed_own _ _ (fun(_:Unit)=>Value.int .i64 y) () X Y row h2 hg (fun r e=>(hrw r e).2)⟩,
  boxed_own _ _ (fun(_:Unit)=>Value.int .i64 z) () X Y row h3 hg (fun r e=>(hrw r e).2)⟩,
  ownFrom_below (β:=Unit) (Yn _) h () X Y row h4 hg hrw,h5⟩
theorem eL (l:List Op3) (a:Option Addr) (cap:Nat) (n:Int) (w:World) (hl:l.length≤9223372036854775807) (hA:OpA w a l) (h:n<0∨1099511627776<n∨l.any Y8=true) :
  Calls Tryz.prog 54 #[.slice a l.length cap,.int .i64 n] w fun e w'=>e=.returned (T3i (0,0,0))∧Below w.heap.size w w':=by
 by_cases h0:n<0
 ·clear h hA
  go_enter Tryz.func54,Tryz.ntmps54
  go_wp2
  exact bodyPost_ret (v:=T3i (0,0,0)) (by simp only[results,Tryz.results54];go_simp;rfl) rfl ⟨rfl,(by repeat (first|(with_reducible exact Below.refl _ _)|((with_reducible refine YM ?_ ?_ _);(rotate_left;focus (first|omega|(simp;done)|(simp;omega))))|((with_reducible refine Below.alloc ?_ ?_ _);(rotate_left;focus (first|omega|(simp;done)|(simp;omega))))|(with_reducible refine below_drewN ?_ _)|(with_reducible refine Below.drew ?_)))⟩
 have h0':decide (n<0)=false:=Yq h0
 by_cases h1:1099511627776<n
 ·clear h h0 hA
  go_enter Tryz.func54,Tryz.ntmps54
  go_wp2
  exact bodyPost_ret (v:=T3i (0,0,0)) (by simp only[results,Tryz.results54];go_simp;rfl) rfl ⟨rfl,(by repeat (first|(with_reducible exact Below.refl _ _)|((with_reducible refine YM ?_ ?_ _);(rotate_left;focus (first|omega|(simp;done)|(simp;omega))))|((with_reducible refine Below.alloc ?_ ?_ _);(rotate_left;focus (first|omega|(simp;done)|(simp;omega))))|(with_reducible refine below_drewN ?_ _)|(with_reducible refine Below.drew ?_)))⟩
 have h1':decide (1099511627776<n)=false:=Yq h1
 have hw:l.any Y8=true:=by rcases h with h|h|h<;>first|exact h|omega
 have HC:=Lib.hid (fun w hA=>QS l a cap w hl hA)
 rw[hw] at HC
 have HA:=Lib.hid hA
 clear h h0 h1 hA
 go_enter Tryz.func54,Tryz.ntmps54
 go_wp2_with (go_at_call 93;(with_reducible refine(HC.out _ (HA.out.below (B:=w.heap.size) (by repeat (first|(with_reducible exact Below.refl _ _)|((with_reducible refine YM ?_ ?_ _);(rotate_left;focus (first|omega|(simp;done)|(simp;omega))))|((with_reducible refine Below.alloc ?_ ?_ _);(rotate_left;focus (first|omega|(simp;done)|(simp;omega))))|(with_reducible refine below_drewN ?_ _)|(with_reducible refine Below.drew ?_))) (Yn _))).mono ?_);rintro e w1 ⟨rfl,hb1⟩;obtain⟨hc_,hf_⟩:=Yx hb1;have kcw1_0:=fun o=>hc_ (w.heap.size) o oz;have kfw1_0:=fun o=>hf_ (w.heap.size) o oz;have lw1_0:w.heap.size<w1.heap.size:=Yo oz hb1.size;have mw1_0:=Nat.lt_succ_of_lt lw1_0;have qw1_0:=Nat.lt_succ_of_lt mw1_0;have mw1_0:w.heap.size<w1.heap.size+1:=mw1_0;have qw1_0:w.heap.size<w1.heap.size+1+1:=qw1_0;have kcw1_1:=fun o=>hc_ (w.heap.size+1) o oz;have kfw1_1:=fun o=>hf_ (w.heap.size+1) o oz;have lw1_1:w.heap.size+1<w1.heap.size:=Yo oz hb1.size;have mw1_1:=Nat.lt_succ_of_lt lw1_1;have qw1_1:=Nat.lt_succ_of_lt mw1_1;have mw1_1:w.heap.size+1<w1.heap.size+1:=mw1_1;have qw1_1:w.heap.size+1<w1.heap.size+1+1:=qw1_1;have kcw1_2:=fun o=>hc_ (w.heap.size+1+1) o oz;have kfw1_2:=fun o=>hf_ (w.heap.size+1+1) o oz;have lw1_2:w.heap.size+1+1<w1.heap.size:=Yo oz hb1.size;have mw1_2:=Nat.lt_succ_of_lt lw1_2;have qw1_2:=Nat.lt_succ_of_lt mw1_2;have mw1_2:w.heap.size+1+1<w1.heap.size+1:=mw1_2;have qw1_2:w.heap.size+1+1<w1.heap.size+1+1:=qw1_2;have kcw1_3:=fun o=>hc_ (w.heap.size+1+1+1) o oz;have kfw1_3:=fun o=>hf_ (w.heap.size+1+1+1) o oz;have lw1_3:w.heap.size+1+1+1<w1.heap.size:=Yo oz hb1.size;have mw1_3:=Nat.lt_succ_of_lt lw1_3;have qw1_3:=Nat.lt_succ_of_lt mw1_3;have mw1_3:w.heap.size+1+1+1<w1.heap.size+1:=mw1_3;have qw1_3:w.heap.size+1+1+1<w1.heap.size+1+1:=qw1_3;clear hc_ hf_)
 exact bodyPost_ret (v:=T3i (0,0,0)) (by simp only[results,Tryz.results54];go_simp;rfl) rfl ⟨rfl,(by repeat (first|(with_reducible exact Below.refl _ _)|((with_reducible refine YM ?_ ?_ _);(rotate_left;focus (first|omega|(simp;done)|(simp;omega))))|((with_reducible refine Below.alloc ?_ ?_ _);(rotate_left;focus (first|omega|(simp;done)|(simp;omega))))|(with_reducible refine below_drewN ?_ _)|(with_reducible refine Below.drew ?_)|((with_reducible refine Below.trans ?_ (Below.mono hb1 ?_));(rotate_left;focus (first|omega|(simp;done)|(simp;omega))))))⟩
theorem uU (l:List Op3) (a:Option Addr) (cap:Nat) (n:Int) (w:World) (hl:l.length≤9223372036854775807) (hA:OpA w a l) (h0:0≤n) (h1:n≤1099511627776) (hw:l.any Y8=false) :
  Calls Tryz.prog 54 #[.slice a l.length cap,.int .i64 n] w fun e w'=>e=.returned (T3i (XT l n))∧Below w.heap.size w w':=by
 have hP:XT l n=gk (Xb l.reverse n):=by unfold XT;rw[Yr (by rw[hw];simp;omega)]
 have HPB:=Lib.hid hP
 have HC:=Lib.hid (fun w hA=>QS l a cap w hl hA)
 rw[hw] at HC
 have HA:=Lib.hid hA
 have HW:=Lib.hid hw
 clear hA hw hP
 have d0:decide (n<0)=false:=Yq oz
 have d1:decide (1099511627776<n)=false:=Yq oz
 refine(callsIn_wide (n:=6)).1 ?_
 refine callsIn_of_wp_marks Tryz.func54 rfl trivial ?_ rfl
 simp only[Tryz.ntmps54,List.size_toArray,List.length_cons,List.length_nil,Nat.reduceAdd,Nat.reduceSub,Array.replicate_succ,Array.replicate_zero,List.push_toArray,List.append_toArray,List.nil_append,List.cons_append]
 gi_wp2_with (first|(refine⟨trivial,?_⟩;gi_at_call 93;(refine(callsIn_wide.2 (HC.out _ (HA.out.below (B:=w.heap.size) (by repeat (first|(with_reducible exact Below.refl _ _)|((with_reducible refine YM ?_ ?_ _);(rotate_left;focus (first|omega|(simp;done)|(simp;omega))))|((with_reducible refine Below.alloc ?_ ?_ _);(rotate_left;focus (first|omega|(simp;done)|(simp;omega))))|(with_reducible refine below_drewN ?_ _)|(with_reducible refine Below.drew ?_))) (Yn _)))).mono ?_);rintro e w1 ⟨rfl,hb1⟩;have HB1:=Lib.hid hb1;clear hb1)|(refine⟨trivial,?_⟩;gi_at_call 95;refine(callsIn_wide.2 (EL _ _ _)).mono ?_;rintro e w' ⟨rfl,rfl⟩))
 have bN:=(((((Boxed.new w 2 (.int .i64 n)).alloc (.cells #[.int .i64 0] 2)).alloc (.cells #[.int .i64 0] 2)).alloc (.cells #[.int .i64 0] 3)))
 have b1:=((Boxed.new (w.alloc (.cells #[.int .i64 n] 2)) 2 (.int .i64 0)).alloc (.cells #[.int .i64 0] 2)).alloc (.cells #[.int .i64 0] 3)
 have b2:=(Boxed.new ((w.alloc (.cells #[.int .i64 n] 2)).alloc (.cells #[.int .i64 0] 2)) 2 (.int .i64 0)).alloc (.cells #[.int .i64 0] 3)
 have b3:=Boxed.new (((w.alloc (.cells #[.int .i64 n] 2)).alloc (.cells #[.int .i64 0] 2)).alloc (.cells #[.int .i64 0] 2)) 3 (.int .i64 0)
 simp only[World.size_alloc] at b1 b2 b3
 have hb1:=HB1.out
 have s1:=hb1.size
 simp only[World.size_alloc] at s1
 have bN1:=(Yw hb1 bN).alloc (.cells #[.slice a l.length cap] 73)
 have b11:=(Yw hb1 b1).alloc (.cells #[.slice a l.length cap] 73)
 have b21:=(Yw hb1 b2).alloc (.cells #[.slice a l.length cap] 73)
 have b31:=(Yw hb1 b3).alloc (.cells #[.slice a l.length cap] 73)
 have bS:=Boxed.new w1 73 (.slice a l.length cap)
 have hB0:Below w.heap.size w (w1.alloc (.cells #[.slice a l.length cap] 73)):=(by repeat (first|(with_reducible exact Below.refl _ _)|((with_reducible refine YM ?_ ?_ _);(rotate_left;focus (first|omega|(simp;done)|(simp;omega))))|((with_reducible refine Below.alloc ?_ ?_ _);(rotate_left;focus (first|omega|(simp;done)|(simp;omega))))|(with_reducible refine below_drewN ?_ _)|(with_reducible refine Below.drew ?_)|((with_reducible refine Below.trans ?_ (Below.mono hb1 ?_));(rotate_left;focus (first|omega|(simp;done)|(simp;omega))))))
 have hsz:(w1.alloc (.cells #[.slice a l.length cap] 73)).heap.size=w1.heap.size+1:=by simp
 obtain⟨Bs,hBs⟩:∃Bs,w1.heap.size=Bs:=⟨_,rfl⟩
 obtain⟨W0,hW0⟩:∃W0,w1.alloc (.cells #[.slice a l.length cap] 73)=W0:=⟨_,rfl⟩
 rw[hW0] at bN1 b11 b21 b31 bS hB0 hsz ⊢
 rw[hBs] at s1 hsz bS ⊢
 clear hW0 hBs HB1 hb1 bN b1 b2 b3
 have hszw:w.heap.size≤W0.heap.size:=oz
 refine wpIn_rangeFunc_ownH (encs:=fun x:BX l=>#[.int .i64 x.i,.agg #[.int .i64 x.k,.int .i64 x.n,.int .i64 x.d]]) rfl oz (gf:=131) (lb:=#[.pointer (some ⟨Bs,0,none⟩)]) rfl trivial (enters_of Tryz.func131 kz rfl)
  (Ks (W0:=w) Fence.wide rfl trivial rfl _ Bs l a cap hl HA.out W0 hB0 bS) (fun h k=>h.trans k) (fun W p o o' hl h hc _=>KB.putObj W p o o' oz h hc) (Below.refl _ _) (fun _=>rfl)
  (BI w l n) (BIx w l n) (Zbi hszw l n) (eM hszw l n) ⟨n,⟨⟨⟨bN1,b11⟩,b21⟩,b31⟩,hB0,h0,h1,rfl⟩
  (fun x a' W=>∃Bx,w.heap.size+1+1+1<Bx∧W.heap[Bx]?=some (.cells #[.int .i64 x.k,.int .i64 x.n,.int .i64 x.d] 135 (0,0)) ∧
   a'={ tmps:=#[.slice a l.length cap,.int .i64 n,undef,.pointer (some ⟨w.heap.size,0,none⟩),.pointer (some ⟨w.heap.size+1,0,none⟩),.pointer (some ⟨w.heap.size+1+1,0,none⟩),.pointer (some ⟨w.heap.size+1+1+1,0,none⟩),undef,.pointer (some ⟨Bx,0,none⟩),undef,undef,
    .int .i64 n,.bool false,.bool false,.int .i64 n,.bool false,.bool false,.bool false,.slice a l.length cap,.bool false,.bool false,.slice a l.length cap,
    .func (.func 131) #[] #[.pointer (some ⟨Bs,0,none⟩)],.int .i64 x.i,.agg #[.int .i64 x.k,.int .i64 x.n,.int .i64 x.d],undef,undef,undef,undef,undef,undef,undef,undef,undef,undef,undef,undef,undef,undef,undef,undef,undef,undef],defers:=[] })
  (fun x a' _ X Y row hs hg hrw=>by
   obtain⟨Bx,h1,h2,h3⟩:=hs
   refine⟨Bx,h1,(hg.block Bx (Array.getElem?_eq_some_iff.1 h2).1 (fun e=>?_)).trans h2,h3⟩
   obtain⟨_,o,ho,hc⟩:=hrw Bx e.symm
   rw[h2] at ho;cases ho;cases hc)
  ?assign ?body ?done ?stop
 case assign =>
  rintro p pre x W K ⟨m,⟨⟨⟨c0,c1⟩,c2⟩,c3⟩,hB1,hm⟩ hK
  gi_wp2
  exact hK _ _ ((KeepsOthers.alloc _ _).from _) ((KB.refl _ _ W).alloc hB1.size _) ⟨m,⟨⟨⟨c0.alloc _,c1.alloc _⟩,c2.alloc _⟩,c3.alloc _⟩,hB1.alloc hB1.size _,hm⟩ ⟨W.heap.size,c3.lt,lite.Yt W _,rfl⟩
 case body =>
  rintro p pre ⟨i,k,N,d,hmem⟩ a' W hl' ⟨r,hr⟩ ⟨m,⟨⟨⟨c0,c1⟩,c2⟩,c3⟩,hB1,hm0,hm1,hma⟩ ⟨Bx,hBx,hxb,rfl⟩ hlt
  simp only at hxb
  obtain⟨⟨x0,x1,x2⟩,xl⟩:=U6 hxb
  have hww:=eG HW.out hmem
  have o0:=c0.cell
  have o0f:=c0.frozen
  have o1:=c1.cell
  have o1f:=c1.frozen
  have o2:=c2.cell
  have o2f:=c2.frozen
  have o3:=c3.cell
  have o3f:=c3.frozen
  have hsW:=hB1.size
  have hsnoc:Xb ((pre++[(⟨i,k,N,d,hmem⟩:BX l)]).map (·.o)) n=Xj (k,N,d) m:=by rw[List.map_append,List.map_cons,List.map_nil,xK,hma];rfl
  have HSN:=Lib.hid hsnoc
  have HMA:=Lib.hid hma
  clear hsnoc hma
  by_cases hmz:m=0
  ·subst hmz
   have HBG:=Lib.hid (fun w=>xL k N d w)
   cases hbg:Xu (k,N,d) with
   | true =>
    rw[hbg] at HBG
    have hE:Hid (Xj (k,N,d) 0=.error (0,N,2)):=by unfold Xj;exact Ys ⟨rfl,hbg⟩
    gi_wp2_with (refine⟨trivial,?_⟩;gi_at_call 96;refine(CallsIn.inRound p (callsIn_wide.2 (HBG.out _))).mono ?_;rintro e w2 ⟨rfl,hb2⟩;have y0:=Yw hb2 c0;have y1:=Yw hb2 c1;have y2:=Yw hb2 c2;have y3:=Yw hb2 c3;have q0:=y0.cell;have q1:=y1.cell;have q2:=y2.cell;have q3:=y3.cell;have g0:=y0.frozen;have g1:=y1.frozen;have g2:=y2.frozen;have g3:=y3.frozen;have hxb2:=(hb2.block _ xl).trans hxb;obtain⟨⟨u0,u1,u2⟩,ul⟩:=U6 hxb2)
    gi_region
    all_goals
     have S3:=Ke y1 y2 y3 (hB1.trans (hb2.mono hsW)) (.int .i64 0) (.int .i64 N) (.int .i64 2)
     gi_wp2
     exact⟨((Vz hb2 _).trans (S3.2.2.from _)).trans ((KeepsOthers.drew _).from _),0,N,2,S3.1,S3.2.1.drew,rfl,HSN.out.trans hE.out⟩
   | false =>
    rw[hbg] at HBG
    have hbn:¬((0:Int)=0∧Xu (k,N,d)=true):=fun h=>by rw[hbg] at h;exact Bool.noConfusion h.2
    have HBF:=Lib.hid (fun w=>Kt k N d 0 w hww hm0 hm1 hbn)
    cases hst:XE (k,N,d) 0 with
    | some t =>
     rw[hst] at HBF
     have hE:Hid (Xj (k,N,d) 0=.ok t):=by unfold Xj;rw[Yr hbn,hst];exact rfl
     have htb:=Gt hww hm0 hm1 hbn hst
     gi_wp2_with (first|(refine⟨trivial,?_⟩;gi_at_call 96;refine(CallsIn.inRound p (callsIn_wide.2 (HBG.out _))).mono ?_;rintro e w2 ⟨rfl,hb2⟩;have y0:=Yw hb2 c0;have y1:=Yw hb2 c1;have y2:=Yw hb2 c2;have y3:=Yw hb2 c3;have q0:=y0.cell;have q1:=y1.cell;have q2:=y2.cell;have q3:=y3.cell;have g0:=y0.frozen;have g1:=y1.frozen;have g2:=y2.frozen;have g3:=y3.frozen;have hxb2:=(hb2.block _ xl).trans hxb;obtain⟨⟨u0,u1,u2⟩,ul⟩:=U6 hxb2)|(refine⟨trivial,?_⟩;gi_at_call 97;refine(CallsIn.inRound p (callsIn_wide.2 (HBF.out _))).mono ?_;rintro e w3 ⟨he,hb3⟩;obtain rfl:e=.returned (.tuple #[.int .i64 t,.bool true]):=he;have z0:=Yw hb3 y0;have z1:=Yw hb3 y1;have z2:=Yw hb3 y2;have z3:=Yw hb3 y3;have r0:=z0.cell;have r1:=z1.cell;have r2:=z2.cell;have r3:=z3.cell;have t0:=z0.frozen;have t1:=z1.frozen;have t2:=z2.frozen;have t3:=z3.frozen))
     exact⟨((Vz hb2 _).trans (Vz hb3 _)).trans ((KeepsOthers.setCell _ _ _).from _),(((KB.refl _ _ _).of_below hb2 hsW).of_below hb3 (Nat.le_trans hsW hb2.size)).setCell (Yn _) oz _,t,⟨⟨⟨z0.set _,z1.other oz _⟩,z2.other oz _⟩,z3.other oz _⟩,((hB1.trans (hb2.mono hsW)).trans (hb3.mono (Nat.le_trans hsW hb2.size))).setCell (p:=⟨w.heap.size,0,none⟩) (by simp) _,htb.1,htb.2,HSN.out.trans hE.out⟩
    | none =>
     rw[hst] at HBF
     have hE:Hid (Xj (k,N,d) 0=.error (0,0,0)):=by unfold Xj;rw[Yr hbn,hst];exact rfl
     gi_wp2_with (first|(refine⟨trivial,?_⟩;gi_at_call 96;refine(CallsIn.inRound p (callsIn_wide.2 (HBG.out _))).mono ?_;rintro e w2 ⟨rfl,hb2⟩;have y0:=Yw hb2 c0;have y1:=Yw hb2 c1;have y2:=Yw hb2 c2;have y3:=Yw hb2 c3;have q0:=y0.cell;have q1:=y1.cell;have q2:=y2.cell;have q3:=y3.cell;have g0:=y0.frozen;have g1:=y1.frozen;have g2:=y2.frozen;have g3:=y3.frozen;have hxb2:=(hb2.block _ xl).trans hxb;obtain⟨⟨u0,u1,u2⟩,ul⟩:=U6 hxb2)|(refine⟨trivial,?_⟩;gi_at_call 97;refine(CallsIn.inRound p (callsIn_wide.2 (HBF.out _))).mono ?_;rintro e w3 ⟨he,hb3⟩;obtain⟨tt,rfl⟩:∃t,e=.returned (.tuple #[.int .i64 t,.bool false]):=he;have z0:=Yw hb3 y0;have z1:=Yw hb3 y1;have z2:=Yw hb3 y2;have z3:=Yw hb3 y3;have r0:=z0.cell;have r1:=z1.cell;have r2:=z2.cell;have r3:=z3.cell;have t0:=z0.frozen;have t1:=z1.frozen;have t2:=z2.frozen;have t3:=z3.frozen))
     have S3:=Ke z1 z2 z3 ((hB1.trans (hb2.mono hsW)).trans (hb3.mono (Nat.le_trans hsW hb2.size))) (.int .i64 0) (.int .i64 0) (.int .i64 0)
     exact⟨((Vz hb2 _).trans (Vz hb3 _)).trans (S3.2.2.from _),0,0,0,S3.1,S3.2.1,rfl,HSN.out.trans hE.out⟩
  have hmz':(m == 0)=false:=Yp.2 hmz
  have hbn:¬(m=0∧Xu (k,N,d)=true):=fun h=>hmz h.1
  have HBF:=Lib.hid (fun w=>Kt k N d m w hww hm0 hm1 hbn)
  cases hst:XE (k,N,d) m with
  | some t =>
   rw[hst] at HBF
   have hE:Hid (Xj (k,N,d) m=.ok t):=by unfold Xj;rw[Yr hbn,hst];exact rfl
   have htb:=Gt hww hm0 hm1 hbn hst
   gi_wp2
   refine⟨trivial,?_⟩
   gi_wp2_with (refine⟨trivial,?_⟩;gi_at_call 97;refine(CallsIn.inRound p (callsIn_wide.2 (HBF.out _))).mono ?_;rintro e w3 ⟨he,hb3⟩;obtain rfl:e=.returned (.tuple #[.int .i64 t,.bool true]):=he;have z0:=Yw hb3 c0;have z1:=Yw hb3 c1;have z2:=Yw hb3 c2;have z3:=Yw hb3 c3;have r0:=z0.cell;have r1:=z1.cell;have r2:=z2.cell;have r3:=z3.cell;have t0:=z0.frozen;have t1:=z1.frozen;have t2:=z2.frozen;have t3:=z3.frozen)
   exact⟨(Vz hb3 _).trans ((KeepsOthers.setCell _ _ _).from _),((KB.refl _ _ _).of_below hb3 hsW).setCell (Yn _) oz _,t,⟨⟨⟨z0.set _,z1.other oz _⟩,z2.other oz _⟩,z3.other oz _⟩,(hB1.trans (hb3.mono hsW)).setCell (p:=⟨w.heap.size,0,none⟩) (by simp) _,htb.1,htb.2,HSN.out.trans hE.out⟩
  | none =>
   rw[hst] at HBF
   have hE:Hid (Xj (k,N,d) m=.error (0,0,0)):=by unfold Xj;rw[Yr hbn,hst];exact rfl
   gi_wp2
   refine⟨trivial,?_⟩
   gi_wp2_with (refine⟨trivial,?_⟩;gi_at_call 97;refine(CallsIn.inRound p (callsIn_wide.2 (HBF.out _))).mono ?_;rintro e w3 ⟨he,hb3⟩;obtain⟨tt,rfl⟩:∃t,e=.returned (.tuple #[.int .i64 t,.bool false]):=he;have z0:=Yw hb3 c0;have z1:=Yw hb3 c1;have z2:=Yw hb3 c2;have z3:=Yw hb3 c3;have r0:=z0.cell;have r1:=z1.cell;have r2:=z2.cell;have r3:=z3.cell;have t0:=z0.frozen;have t1:=z1.frozen;have t2:=z2.frozen;have t3:=z3.frozen)
   have S3:=Ke z1 z2 z3 (hB1.trans (hb3.mono hsW)) (.int .i64 0) (.int .i64 0) (.int .i64 0)
   exact⟨(Vz hb3 _).trans (S3.2.2.from _),0,0,0,S3.1,S3.2.1,rfl,HSN.out.trans hE.out⟩
 case done =>
  rintro D zs W hD hzs ⟨m,⟨⟨⟨c0,c1⟩,c2⟩,c3⟩,hB1,hm0,hm1,hma⟩ hK
  have hans:XT l n=(m,0,1):=by rw[HPB.out,←hzs,hma];rfl
  have o0:=c0.cell
  have o1:=c1.cell
  have o1f:=c1.frozen
  have o2:=c2.cell
  have o2f:=c2.frozen
  have o3:=c3.cell
  have o3f:=c3.frozen
  have HAN:=Lib.hid hans
  clear hans hma
  gi_wp2
  have S3:=Ke c1 c2 c3 hB1 (.int .i64 m) (.int .i64 0) (.int .i64 1)
  have hK2:=S3.2.2.same D _ hK rfl
  refine⟨by simp,.inl ⟨_,_,rfl,run_takeDeferred hK2,?_⟩⟩
  have e1:=(S3.1.1.1.kept (grownBy_putObj' _ D (.deferred none)) (by intro e;injection e with e;omega)).cell
  have e2:=(S3.1.1.2.kept (grownBy_putObj' _ D (.deferred none)) (by intro e;injection e with e;omega)).cell
  have e3:=(S3.1.2.kept (grownBy_putObj' _ D (.deferred none)) (by intro e;injection e with e;omega)).cell
  refine⟨T3i (m,0,1),?_,?_,?_⟩
  ·simp only[results,Tryz.results54];go_simp;rfl
  ·rw[HAN.out]
  exact S3.2.1.trans (KB.putObj (n₀:=w.heap.size) (Bs:=Bs) _ D _ _ oz hK2 rfl).below
 rintro D c pre W hD hpre ⟨x,y,z,⟨⟨c1,c2⟩,c3⟩,hB1,rfl,hma⟩ hK
 have hans:XT l n=(x,y,z):=by
  obtain⟨t,ht⟩:=hpre
  rw[HPB.out,←ht,EJ _ _ _ hma];rfl
 gi_wp2
 refine⟨by simp,.inl ⟨_,_,rfl,run_takeDeferred hK,?_⟩⟩
 have e1:=(c1.kept (grownBy_putObj' _ D (.deferred none)) (by intro e;injection e with e;omega)).cell
 have e2:=(c2.kept (grownBy_putObj' _ D (.deferred none)) (by intro e;injection e with e;omega)).cell
 have e3:=(c3.kept (grownBy_putObj' _ D (.deferred none)) (by intro e;injection e with e;omega)).cell
 refine⟨T3i (x,y,z),?_,?_,?_⟩
 ·simp only[results,Tryz.results54];go_simp;rfl
 ·rw[hans]
 exact hB1.trans (KB.putObj (n₀:=w.heap.size) (Bs:=Bs) _ D _ _ oz hK rfl).below
theorem uT (l:List Op3) (a:Option Addr) (cap:Nat) (n:Int) (w:World) (hl:l.length≤9223372036854775807) (hA:OpA w a l) :
  Calls Tryz.prog 54 #[.slice a l.length cap,.int .i64 n] w fun e w'=>e=.returned (T3i (XT l n))∧Below w.heap.size w w':=by
 by_cases h:n<0∨1099511627776<n∨l.any Y8=true
 ·rw[show XT l n=(0,0,0) by unfold XT;rw[Ys h]];exact eL l a cap n w hl hA h
 exact uU l a cap n w hl hA oz oz (by cases hw:l.any Y8 with|false=>rfl|true=>exact absurd (Or.inr (Or.inr hw)) h)
end Go.Proofs.YtlhlcdjiafdoeaaGreatDoor.index
