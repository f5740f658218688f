/-
  Parts of the proof: Idx1, Keep, Idx2, Lite.
-/
import Derived.Below
import Derived.BigQuiet
import Derived.Deep.QuietTactic
import Derived.Lib.Hide
import Derived.LoopIn
import Derived.LoopNIn
import Derived.OwnWalkIn
import Derived.ProofKit
import Derived.RangeFuncBound
import Derived.RangeFuncCalls
import Derived.RangeFuncLeaves
import Derived.RangeFuncNested
import Derived.Shelf.Abstract
import Derived.TacticsInMore
import Derived.Test.YtgigilkpndhddaaGreatDoorChecked
import Derived.Test.YtgigilkpndhddaaGreatDoorQ01
import Derived.WalkKit
namespace Go.Proofs.YtgigilkpndhddaaGreatDoor.index
set_option linter.unusedVariables false
set_option linter.unusedSimpArgs false
set_option linter.unnecessarySimpa false
set_option maxRecDepth 100000
set_option maxHeartbeats 16000000
open Go.RowKit clock
abbrev Op3:=Int × Int × Int
def Y5 (o:Op3):Bool:=if o.1=3∨o.1=4 then decide (o.2.1<1) else decide (o.1<3∨8<o.1)
def XD (o:Op3):Bool:=decide (o.1=6∨o.1=8)
def YR (o:Op3):Bool:=decide (o.1=6∨(o.1=5∧¬o.2.1=0))
theorem uT (k n d:Int) (w:World) :
  Calls Tryz.prog 140 #[.agg #[.int .i64 k,.int .i64 n,.int .i64 d]] w fun e w'=>e=.returned (.bool (Y5 (k,n,d)))∧Below w.heap.size w w':=by
 by_cases h34:k=3∨k=4
 ·rcases h34 with rfl|rfl
  all_goals
   go_enter Tryz.func140,Tryz.ntmps140
   go_wp2
   go_ret
   exact⟨XM (by simp[Y5]),Uk _⟩
 have h3:(k == 3)=false:=beq_eq_false_iff_ne.2 (by omega)
 have h4:(k == 4)=false:=beq_eq_false_iff_ne.2 (by omega)
 have E:Hid (Y5 (k,n,d)=decide (k<3∨8<k)):=by unfold Y5;exact if_neg h34
 clear h34
 by_cases hl:k<3
 ·go_enter Tryz.func140,Tryz.ntmps140
  go_wp2
  go_ret
  exact⟨XM (by rw[E.out];simp;omega),Uk _⟩
 have hl':decide (k<3)=false:=decide_eq_false hl
 go_enter Tryz.func140,Tryz.ntmps140
 go_wp2
 go_ret
 exact⟨XM (by rw[E.out];simp;omega),Uk _⟩
theorem jz (k n d:Int) (w:World) :
  Calls Tryz.prog 142 #[.agg #[.int .i64 k,.int .i64 n,.int .i64 d]] w fun e w'=>e=.returned (.bool (XD (k,n,d)))∧Below w.heap.size w w':=by
 by_cases h6:k=6
 ·subst h6
  go_enter Tryz.func142,Tryz.ntmps142
  go_wp2
  go_ret
  exact⟨XM (by simp[XD]),Uk _⟩
 have h6':(k == 6)=false:=beq_eq_false_iff_ne.2 h6
 have E:Hid (XD (k,n,d)=(k == 8)):=by unfold XD;show _=_;cases h:(k == 8)<;>simp_all
 clear h6
 go_enter Tryz.func142,Tryz.ntmps142
 go_wp2
 go_ret
 exact⟨XM (by rw[E.out]),Uk _⟩
theorem js (k n d:Int) (w:World) :
  Calls Tryz.prog 162 #[.agg #[.int .i64 k,.int .i64 n,.int .i64 d]] w fun e w'=>e=.returned (.bool (YR (k,n,d)))∧Below w.heap.size w w':=by
 by_cases h6:k=6
 ·subst h6
  go_enter Tryz.func162,Tryz.ntmps162
  go_wp2
  go_ret
  exact⟨XM (by simp[YR]),Uk _⟩
 have h6':(k == 6)=false:=beq_eq_false_iff_ne.2 h6
 by_cases h5:k=5
 ·subst h5
  have E:Hid (YR (5,n,d)=(n != 0)):=by unfold YR;show _=_;simp;cases h:(n != 0)<;>simp_all
  clear h6
  go_enter Tryz.func162,Tryz.ntmps162
  go_wp2
  go_ret
  exact⟨XM (by rw[E.out]),Uk _⟩
 have h5':(k == 5)=false:=beq_eq_false_iff_ne.2 h5
 have E:Hid (YR (k,n,d)=false):=by unfold YR;show _=_;simp[h6,h5]
 clear h6 h5
 go_enter Tryz.func162,Tryz.ntmps162
 go_wp2
 go_ret
 exact⟨XM (by rw[E.out]),Uk _⟩
def XF (o:Op3) (n:Int):Option Int :=
 if o.1=3 then some (n/o.2.1)
 else if o.1=4 then (if n*o.2.1≤1099511627776 then some (n*o.2.1) else none)
 else if o.1=6∨o.1=8 then some (n-1)
 else if o.1=7 then (if n<1099511627776 then some (n+1) else none)
 else some n
def Zcw (x:Option Int) (e:Ending):Prop:=match x with
 | some t=>e=.returned (.tuple #[.int .i64 t,.bool true])
 | none=>∃t,e=.returned (.tuple #[.int .i64 t,.bool false])
theorem UQ {n N:Int} (hn:0≤n) (hN:1≤N):0≤n/N∧n/N≤n:=by
 have h1:=Int.ediv_nonneg hn (show 0≤N by omega)
 have h2:=Int.ediv_le_self N hn
 exact⟨h1,h2⟩
theorem KX (k N d n:Int) (w:World) (hw:Y5 (k,N,d)=false) (h0:0≤n) (h1:n≤1099511627776) (hb:¬(n=0∧XD (k,N,d)=true)) :
  Calls Tryz.prog 143 #[.agg #[.int .i64 k,.int .i64 N,.int .i64 d],.int .i64 n] w fun e w'=>Zcw (XF (k,N,d) n) e∧Below w.heap.size w w':=by
 by_cases h3:k=3
 ·subst h3
  have hN:1≤N:=by simp[Y5] at hw;omega
  have hq:=UQ h0 hN
  have q1:IntKind.i64.wrap (n.tdiv N)=n/N:=by rw[Int.tdiv_eq_ediv_of_nonneg h0,IntWalk.i64_in _ (by omega)]
  have q2:(N == 0)=false:=beq_eq_false_iff_ne.2 (by omega)
  have q3:¬N=0:=by omega
  have E:Hid (XF (3,N,d) n=some (n/N)):=rfl
  clear hw hb hq
  go_enter Tryz.func143,Tryz.ntmps143
  go_wp2
  go_ret2
  exact⟨by rw[E.out];rfl,(by repeat (first|(with_reducible exact Below.refl _ _)|((with_reducible refine YK ?_ ?_ _);(rotate_left;focus (first|omega|(simp;done)|(simp;omega))))|((with_reducible refine Below.alloc ?_ ?_ _);(rotate_left;focus (first|omega|(simp;done)|(simp;omega))))|(with_reducible refine below_drewN ?_ _)|(with_reducible refine Below.drew ?_)))⟩
 have k3:(k == 3)=false:=beq_eq_false_iff_ne.2 h3
 by_cases h4:k=4
 ·subst h4
  have hN:1≤N:=by simp[Y5] at hw;omega
  have hq:=UQ (n:=1099511627776) (by omega) hN
  have q1:IntKind.i64.wrap ((1099511627776:Int).tdiv N)=1099511627776/N:=by rw[Int.tdiv_eq_ediv_of_nonneg (by omega),IntWalk.i64_in _ (by omega)]
  have q2:(N == 0)=false:=beq_eq_false_iff_ne.2 (by omega)
  have q3:¬N=0:=by omega
  by_cases hm:n*N≤1099511627776
  ·have hle:n≤1099511627776/N:=(Int.le_ediv_iff_mul_le (by omega)).2 hm
   have hge:=Int.mul_nonneg h0 (show 0≤N by omega)
   have v1:IntKind.i64.wrap (n*N)=n*N:=IntWalk.i64_in _ (by omega)
   have E:Hid (XF (4,N,d) n=some (n*N)):=by unfold XF;show _=_;simp[hm]
   clear hw hb hm hge k3
   go_enter Tryz.func143,Tryz.ntmps143
   go_wp2
   go_quiet (fail)
   go_wp2
   go_ret2
   exact⟨by rw[E.out];rfl,arith.below_drewN (Uk _) _⟩
  have hle:¬n≤1099511627776/N:=fun h=>hm ((Int.le_ediv_iff_mul_le (by omega)).1 h)
  have hle':1099511627776/N<n:=by omega
  have f1:decide (n≤1099511627776/N)=false:=decide_eq_false hle
  have E:Hid (XF (4,N,d) n=none):=by unfold XF;show _=_;simp[hm]
  clear hw hb hm hle k3
  go_enter Tryz.func143,Tryz.ntmps143
  go_wp2
  go_quiet (fail)
  go_wp2
  go_ret2
  exact⟨by rw[E.out];exact⟨_,rfl⟩,arith.below_drewN (Uk _) _⟩
 have k4:(k == 4)=false:=beq_eq_false_iff_ne.2 h4
 by_cases h68:k=6∨k=8
 ·have hn:1≤n:=by
   have:XD (k,N,d)=true:=by simp[XD,h68]
   have:¬n=0:=fun h=>hb ⟨h,this⟩
   omega
  have E:Hid (XF (k,N,d) n=some (n-1)):=by unfold XF;show _=_;simp[h3,h4,h68]
  clear hw hb h3 h4
  rcases h68 with rfl|rfl
  all_goals
   go_enter Tryz.func143,Tryz.ntmps143
   go_wp2
   go_ret2
   exact⟨by rw[E.out];rfl,(by repeat (first|(with_reducible exact Below.refl _ _)|((with_reducible refine YK ?_ ?_ _);(rotate_left;focus (first|omega|(simp;done)|(simp;omega))))|((with_reducible refine Below.alloc ?_ ?_ _);(rotate_left;focus (first|omega|(simp;done)|(simp;omega))))|(with_reducible refine below_drewN ?_ _)|(with_reducible refine Below.drew ?_)))⟩
 have k6:(k == 6)=false:=beq_eq_false_iff_ne.2 (by omega)
 have k8:(k == 8)=false:=beq_eq_false_iff_ne.2 (by omega)
 by_cases h7:k=7
 ·subst h7
  by_cases hm:n<1099511627776
  ·have E:Hid (XF (7,N,d) n=some (n+1)):=by unfold XF;show _=_;simp[hm]
   clear hw hb
   go_enter Tryz.func143,Tryz.ntmps143
   go_wp2
   go_ret2
   exact⟨by rw[E.out];rfl,(by repeat (first|(with_reducible exact Below.refl _ _)|((with_reducible refine YK ?_ ?_ _);(rotate_left;focus (first|omega|(simp;done)|(simp;omega))))|((with_reducible refine Below.alloc ?_ ?_ _);(rotate_left;focus (first|omega|(simp;done)|(simp;omega))))|(with_reducible refine below_drewN ?_ _)|(with_reducible refine Below.drew ?_)))⟩
  have E:Hid (XF (7,N,d) n=none):=by unfold XF;show _=_;simp[hm]
  clear hw hb
  go_enter Tryz.func143,Tryz.ntmps143
  go_wp2
  go_ret2
  exact⟨by rw[E.out];exact⟨_,rfl⟩,(by repeat (first|(with_reducible exact Below.refl _ _)|((with_reducible refine YK ?_ ?_ _);(rotate_left;focus (first|omega|(simp;done)|(simp;omega))))|((with_reducible refine Below.alloc ?_ ?_ _);(rotate_left;focus (first|omega|(simp;done)|(simp;omega))))|(with_reducible refine below_drewN ?_ _)|(with_reducible refine Below.drew ?_)))⟩
 have k7:(k == 7)=false:=beq_eq_false_iff_ne.2 h7
 have E:Hid (XF (k,N,d) n=some n):=by unfold XF;show _=_;simp[h3,h4,h68,h7]
 clear hw hb h3 h4 h68 h7
 go_enter Tryz.func143,Tryz.ntmps143
 go_wp2
 go_ret2
 exact⟨by rw[E.out];rfl,(by repeat (first|(with_reducible exact Below.refl _ _)|((with_reducible refine YK ?_ ?_ _);(rotate_left;focus (first|omega|(simp;done)|(simp;omega))))|((with_reducible refine Below.alloc ?_ ?_ _);(rotate_left;focus (first|omega|(simp;done)|(simp;omega))))|(with_reducible refine below_drewN ?_ _)|(with_reducible refine Below.drew ?_)))⟩
def OpA (w:World) (a:Option Addr) (l:List Op3):Prop:=∀k,k<l.length→∃b off,a=some ⟨b,off,none⟩∧b<w.heap.size ∧
 w.cell? ⟨b,off+k*3,none⟩=some (.int .i64 (l.getD k (0,0,0)).1)∧w.cell? ⟨b,off+k*3+1,none⟩=some (.int .i64 (l.getD k (0,0,0)).2.1)∧w.cell? ⟨b,off+k*3+2,none⟩=some (.int .i64 (l.getD k (0,0,0)).2.2)
theorem OpA.below {B:Nat} {w w1:World} {a:Option Addr} {l:List Op3} (h:OpA w a l) (hb:Below B w w1) (hB:w.heap.size≤B):OpA w1 a l:=by
 intro k hk
 obtain⟨b,off,rfl,h1,h2,h3,h4⟩:=h k hk
 have hlt:b<B:=by omega
 exact⟨b,off,rfl,Nat.lt_of_lt_of_le h1 hb.size,(hb.cell (p:=⟨b,_,none⟩) hlt).trans h2,(hb.cell (p:=⟨b,_,none⟩) hlt).trans h3,(hb.cell (p:=⟨b,_,none⟩) hlt).trans h4⟩
theorem zX {P:Op3→Bool} {l:List Op3} {k:Nat} (hk:k<l.length) (h:(l.take k).any P=false) (h2:P (l.getD k (0,0,0))=false):(l.take (k+1)).any P=false:=by
 rw[List.take_succ_eq_append_getElem hk,List.any_append,h,←plain.getD_lt (0,0,0) hk];simp only[List.any_cons,List.any_nil,h2,Bool.or_false]
theorem jK {P:Op3→Bool} {l:List Op3} {k:Nat} (hk:k<l.length) (h2:P (l.getD k (0,0,0))=true):l.any P=true:=by
 rw[List.any_eq_true];rw[plain.getD_lt _ hk] at h2;exact⟨_,List.getElem_mem hk,h2⟩
theorem Kb
  (l:List Op3) (a:Option Addr) (cap:Nat) (w:World) (hl:l.length≤9223372036854775807) (hA:OpA w a l) :
  Calls Tryz.prog 164 #[.slice a l.length cap,.func (.func 140) #[] #[]] w fun e w'=>(∃i:Int,e=.returned (.int .i64 i)∧l.any Y5=decide (0≤i))∧Below w.heap.size w w':=by
 have HP:=Lib.hid uT
 have HA:=Lib.hid hA
 clear hA
 go_enter Tryz.func164,Tryz.ntmps164
 go_wp2
 go_loopw [8] (fun i wr=>∃(k:Nat),k≤l.length∧i=.int .i64 k∧Hid (Below w.heap.size w wr∧(l.take k).any Y5=false)) (fun i _=>l.length-(intOf i).toNat)
 case atStart=>exact⟨0,by omega,rfl,Below.refl _ _,by simp⟩
 obtain⟨k,hk,rfl,hrel⟩:=hrel
 have HR:=hrel
 clear hrel
 by_cases hlt:k<l.length
 ·obtain⟨b,off,rfl,hb,c0,c1,c2⟩:=(HA.out.below HR.out.1 (Nat.le_refl _)) k hlt
  have HC:=Lib.hid (HP.out (l.getD k (0,0,0)).1 (l.getD k (0,0,0)).2.1 (l.getD k (0,0,0)).2.2)
  have eta:((l.getD k (0,0,0)).1,(l.getD k (0,0,0)).2.1,(l.getD k (0,0,0)).2.2)=l.getD k (0,0,0):=rfl
  rw[eta] at HC
  obtain⟨x,hx⟩:∃x,l.getD k (0,0,0)=x:=⟨_,rfl⟩
  have HX:=Lib.hid hx
  rw[hx] at c0 c1 c2 HC
  clear hx eta
  cases hpx:Y5 x with
  | true =>
   rw[hpx] at HC
   go_wp2_with (go_at_call 140;(with_reducible refine(HC.out _).mono ?_);rintro e w1 ⟨rfl,hb1⟩;have HB1:=Lib.hid hb1;clear hb1)
   go_ret
   exact⟨⟨_,rfl,by rw[jK hlt (by rw[HX.out,hpx])];simp⟩,HR.out.1.trans (HB1.out.mono HR.out.1.size)⟩
  | false =>
   rw[hpx] at HC
   go_wp2_with (go_at_call 140;(with_reducible refine(HC.out _).mono ?_);rintro e w1 ⟨rfl,hb1⟩;have HB1:=Lib.hid hb1;clear hb1)
   go_roundw
   case rel=>exact⟨k+1,by omega,by go_num,HR.out.1.trans (HB1.out.mono HR.out.1.size),zX (P:=_) hlt HR.out.2 (by rw[HX.out,hpx])⟩
   simp[intOf];omega
 have hk':k=l.length:=by omega
 subst hk'
 have E:Hid (l.any Y5=false):=by have:=HR.out.2;rw[List.take_length] at this;exact this
 go_wp2
 go_ret
 exact⟨⟨_,rfl,by rw[E.out];decide⟩,HR.out.1⟩
theorem Q5
  (l:List Op3) (a:Option Addr) (cap:Nat) (w:World) (hl:l.length≤9223372036854775807) (hA:OpA w a l) :
  Calls Tryz.prog 139 #[.slice a l.length cap,.func (.func 140) #[] #[]] w fun e w'=>e=.returned (.bool (l.any Y5))∧Below w.heap.size w w':=by
 have HC:=Lib.hid (Kb l a cap w hl hA)
 clear hA
 go_enter Tryz.func139,Tryz.ntmps139
 go_wp2_with (go_at_call 164;(with_reducible refine HC.out.mono ?_);rintro e w1 ⟨⟨i,rfl,hi⟩,hb1⟩;have HI:=Lib.hid hi;have HB1:=Lib.hid hb1;clear hi hb1)
 go_ret
 exact⟨XM (by rw[HI.out]),HB1.out⟩
theorem Uy
  (l:List Op3) (a:Option Addr) (cap:Nat) (w:World) (hl:l.length≤9223372036854775807) (hA:OpA w a l) :
  Calls Tryz.prog 164 #[.slice a l.length cap,.func (.func 162) #[] #[]] w fun e w'=>(∃i:Int,e=.returned (.int .i64 i)∧l.any YR=decide (0≤i))∧Below w.heap.size w w':=by
 have HP:=Lib.hid js
 have HA:=Lib.hid hA
 clear hA
 go_enter Tryz.func164,Tryz.ntmps164
 go_wp2
 go_loopw [8] (fun i wr=>∃(k:Nat),k≤l.length∧i=.int .i64 k∧Hid (Below w.heap.size w wr∧(l.take k).any YR=false)) (fun i _=>l.length-(intOf i).toNat)
 case atStart=>exact⟨0,by omega,rfl,Below.refl _ _,by simp⟩
 obtain⟨k,hk,rfl,hrel⟩:=hrel
 have HR:=hrel
 clear hrel
 by_cases hlt:k<l.length
 ·obtain⟨b,off,rfl,hb,c0,c1,c2⟩:=(HA.out.below HR.out.1 (Nat.le_refl _)) k hlt
  have HC:=Lib.hid (HP.out (l.getD k (0,0,0)).1 (l.getD k (0,0,0)).2.1 (l.getD k (0,0,0)).2.2)
  have eta:((l.getD k (0,0,0)).1,(l.getD k (0,0,0)).2.1,(l.getD k (0,0,0)).2.2)=l.getD k (0,0,0):=rfl
  rw[eta] at HC
  obtain⟨x,hx⟩:∃x,l.getD k (0,0,0)=x:=⟨_,rfl⟩
  have HX:=Lib.hid hx
  rw[hx] at c0 c1 c2 HC
  clear hx eta
  cases hpx:YR x with
  | true =>
   rw[hpx] at HC
   go_wp2_with (go_at_call 162;(with_reducible refine(HC.out _).mono ?_);rintro e w1 ⟨rfl,hb1⟩;have HB1:=Lib.hid hb1;clear hb1)
   go_ret
   exact⟨⟨_,rfl,by rw[jK hlt (by rw[HX.out,hpx])];simp⟩,HR.out.1.trans (HB1.out.mono HR.out.1.size)⟩
  | false =>
   rw[hpx] at HC
   go_wp2_with (go_at_call 162;(with_reducible refine(HC.out _).mono ?_);rintro e w1 ⟨rfl,hb1⟩;have HB1:=Lib.hid hb1;clear hb1)
   go_roundw
   case rel=>exact⟨k+1,by omega,by go_num,HR.out.1.trans (HB1.out.mono HR.out.1.size),zX (P:=_) hlt HR.out.2 (by rw[HX.out,hpx])⟩
   simp[intOf];omega
 have hk':k=l.length:=by omega
 subst hk'
 have E:Hid (l.any YR=false):=by have:=HR.out.2;rw[List.take_length] at this;exact this
 go_wp2
 go_ret
 exact⟨⟨_,rfl,by rw[E.out];decide⟩,HR.out.1⟩
theorem Vk
  (l:List Op3) (a:Option Addr) (cap:Nat) (w:World) (hl:l.length≤9223372036854775807) (hA:OpA w a l) :
  Calls Tryz.prog 139 #[.slice a l.length cap,.func (.func 162) #[] #[]] w fun e w'=>e=.returned (.bool (l.any YR))∧Below w.heap.size w w':=by
 have HC:=Lib.hid (Uy l a cap w hl hA)
 clear hA
 go_enter Tryz.func139,Tryz.ntmps139
 go_wp2_with (go_at_call 164;(with_reducible refine HC.out.mono ?_);rintro e w1 ⟨⟨i,rfl,hi⟩,hb1⟩;have HI:=Lib.hid hi;have HB1:=Lib.hid hb1;clear hi hb1)
 go_ret
 exact⟨XM (by rw[HI.out]),HB1.out⟩
theorem uB (l:List Op3) (a:Option Addr) (cap:Nat) (w:World) (hl:l.length≤9223372036854775807) (hA:OpA w a l) :
  Calls Tryz.prog 136 #[.slice a l.length cap] w fun e w'=>e=.returned (.bool (l.any YR))∧Below w.heap.size w w':=by
 have HC:=Lib.hid (Vk l a cap w hl hA)
 clear hA
 go_enter Tryz.func136,Tryz.ntmps136
 go_wp2_with (go_at_call 139;(with_reducible refine HC.out.mono ?_);rintro e w1 ⟨rfl,hb1⟩;have HB1:=Lib.hid hb1;clear hb1)
 go_ret
 exact⟨rfl,HB1.out⟩
end Go.Proofs.YtgigilkpndhddaaGreatDoor.index
namespace Go.Proofs.YtgigilkpndhddaaGreatDoor.syn
set_option linter.unusedVariables false
set_option linter.unusedSimpArgs false
set_option linter.unnecessarySimpa false
set_option maxRecDepth 100000
set_option maxHeartbeats 16000000
open Go.RowKit
theorem ug {F:Fence} (hd:F.depth=none) (k:Nat):F.room k:=fun d h=>by rw[hd] at h;cases h
theorem YieldAt.deep {F:Fence} (hd:F.depth=none) {m:Nat} (m':Nat) {P:Program} {l:Nat} {args:Array Value} {W:World} {R:Ending→World→Prop} (h:YieldAt F m P l args W R):YieldAt F m' P l args W R:=by
 obtain⟨fn,tmps,assign,body,hy,hR⟩:=h
 exact⟨fn,tmps,assign,body,hy,⟨hR.1,fun c cs _=>hR.2 c cs (ug hd _)⟩⟩
structure KC (n₀:Nat) (W W':World):Prop where
 below:Below n₀ W W'
 same:∀(k:Nat) (o:Obj),W.heap[k]?=some o→o.isCells=true→W'.heap[k]?=some o
theorem KC.refl (n₀:Nat) (W:World):KC n₀ W W:=⟨Below.refl _ _,fun _ _ h _=>h⟩
theorem KC.trans {n₀:Nat} {A B C:World} (h:KC n₀ A B) (k:KC n₀ B C):KC n₀ A C:=⟨h.below.trans k.below,fun i o hi ho=>k.same i o (h.same i o hi ho) ho⟩
theorem KC.alloc {n₀:Nat} {A W:World} (h:KC n₀ A W) (hn:n₀≤W.heap.size) (o:Obj):KC n₀ A (W.alloc o) :=
 h.trans ⟨(Below.refl _ _).alloc hn _,fun k x hk _=>(Below.heap_alloc W o k (Array.getElem?_eq_some_iff.1 hk).1).trans hk⟩
theorem KC.putObj {n₀:Nat} (W:World) (l:Nat) (o o':Obj) (hl:n₀≤l) (h:W.heap[l]?=some o) (hc:o.isCells=false):KC n₀ W (W.putObj l o') :=
 ⟨⟨rfl,rfl,rfl,by simp,fun k hk=>World.putObj_heap_other (fun e=>by omega)⟩,fun k x hk hx=>(World.putObj_heap_other (fun e=>by subst e;rw[h] at hk;injection hk with hk;subst hk;rw[hc] at hx;cases hx)).trans hk⟩
theorem KC.of_below {n₀:Nat} {A W W':World} (h:KC n₀ A W) (hb:Below W.heap.size W W') (hn:n₀≤W.heap.size):KC n₀ A W' :=
 h.trans ⟨hb.mono hn,fun k o hk _=>(hb.block k (lt_of_block hk)).trans hk⟩
theorem Jf {β:Type} {B:Nat} {J:β→World→Prop} (h:AbidesFrom B J) {s:β} {W:World} (hs:J s W) (o:Obj):J s (W.alloc o) :=
 h s W _ none hs (World.grownBy_alloc W o none) (fun r e=>by cases e)
end Go.Proofs.YtgigilkpndhddaaGreatDoor.syn
namespace Go.Proofs.YtgigilkpndhddaaGreatDoor.index
set_option linter.unusedVariables false
set_option linter.unusedSimpArgs false
set_option linter.unnecessarySimpa false
set_option maxRecDepth 100000
set_option maxHeartbeats 16000000
open Go.RowKit Go.Shelf clock syn
attribute [local go_sem] Oper.semAt_some
structure KB (n₀ Bs:Nat) (W W':World):Prop where
 below:Below n₀ W W'
 box:∀(o:Obj),W.heap[Bs]?=some o→o.isCells=true→W'.heap[Bs]?=some o
theorem KB.refl (n₀ Bs:Nat) (W:World):KB n₀ Bs W W:=⟨Below.refl _ _,fun _ h _=>h⟩
theorem KB.trans {n₀ Bs:Nat} {A B C:World} (h:KB n₀ Bs A B) (k:KB n₀ Bs B C):KB n₀ Bs A C:=⟨h.below.trans k.below,fun o ho hc=>k.box o (h.box o ho hc) hc⟩
theorem KB.alloc {n₀ Bs:Nat} {A W:World} (h:KB n₀ Bs A W) (hn:n₀≤W.heap.size) (o:Obj):KB n₀ Bs A (W.alloc o) :=
 h.trans ⟨(Below.refl _ _).alloc hn _,fun x hk _=>(Below.heap_alloc W o Bs (Array.getElem?_eq_some_iff.1 hk).1).trans hk⟩
theorem KB.putObj {n₀ Bs:Nat} (W:World) (l:Nat) (o o':Obj) (hl:n₀≤l) (h:W.heap[l]?=some o) (hc:o.isCells=false):KB n₀ Bs W (W.putObj l o') :=
 ⟨⟨rfl,rfl,rfl,by simp,fun k hk=>World.putObj_heap_other (fun e=>by omega)⟩,fun x hk hx=>(World.putObj_heap_other (fun e=>by subst e;rw[h] at hk;injection hk with hk;subst hk;rw[hc] at hx;cases hx)).trans hk⟩
theorem KB.of_below {n₀ Bs:Nat} {A W W':World} (h:KB n₀ Bs A W) (hb:Below W.heap.size W W') (hn:n₀≤W.heap.size):KB n₀ Bs A W' :=
 h.trans ⟨hb.mono hn,fun o hk _=>(hb.block Bs (lt_of_block hk)).trans hk⟩
theorem KB.setCell {n₀ Bs:Nat} {A W:World} (h:KB n₀ Bs A W) {b:Nat} (hn:n₀≤b) (hne:Bs≠b) (v:Value):KB n₀ Bs A (W.setCell ⟨b,0,none⟩ v) :=
 h.trans ⟨(Below.refl _ _).setCell (p:=⟨b,0,none⟩) hn v,fun o hk _=>((grownBy_setCell' W b v).block Bs (lt_of_block hk) (by simp;exact hne)).trans hk⟩
structure BX (l:List Op3) where
 i:Int
 k:Int
 n:Int
 d:Int
 mem:(k,n,d)∈l
def BX.o {l:List Op3} (x:BX l):Op3:=(x.k,x.n,x.d)
def BX.vs {l:List Op3} (x:BX l):Array Value:=#[.int .i64 x.i,.agg #[.int .i64 x.k,.int .i64 x.n,.int .i64 x.d]]
def Zdl (n₀ Bs:Nat) (l:List Op3) (J:List (BX l)→World→Prop) (W:World) (v:Value) (wr:World):Prop :=
 ∃(k:Nat) (ys:List (BX l)),v=.int .i64 ((k:Int)-1)∧k≤l.length∧ys.map (·.o)++(l.take k).reverse=l.reverse∧J ys wr∧KB n₀ Bs W wr
theorem gY {l:List Op3} {j:Nat} (h:j<l.length):(l.take (j+1)).reverse=l.getD j (0,0,0)::(l.take j).reverse:=by
 rw[List.take_succ_eq_append_getElem h,List.reverse_append,←plain.getD_lt (0,0,0) h];rfl
theorem zw {W0:World} (F:Fence) (hd:F.depth=none) (hG:F.fn 165) (hro:F.round=none) (n l B Bs:Nat) (ops:List Op3) (a:Option Addr) (cap:Nat)
  (hlen:ops.length≤9223372036854775807) (hA:OpA W0 a ops) (J Jx:List (BX ops)→World→Prop) (hJ:AbidesFrom B J)
  (hY:∀m pre x W,J pre W→pre.length<ops.length→YieldAt F m Tryz.prog l x.vs W fun e W'=>(e=.returned (.bool true)∧J (pre++[x]) W'∧KB W0.heap.size Bs W W')∨(e=.returned (.bool false)∧Jx (pre++[x]) W'))
  (W:World) (hB:Below W0.heap.size W0 W) (hbx:Boxed W Bs 67 (.slice a ops.length cap)) (h0:J [] W) :
  CallsIn F n Tryz.prog 165 #[.func (.yield l) #[] #[],.pointer (some ⟨Bs,0,none⟩)] W fun e W'=>(∃v,e=.returned v) ∧
   ((∃xs:List (BX ops),xs.map (·.o)=ops.reverse∧J xs W')∨(∃pre:List (BX ops),pre.map (·.o) <+: ops.reverse∧Jx pre W')):=by
 have hdd:∀k:Nat,(F.depth.isSome=true→1≤k):=fun k h=>by rw[hd] at h;cases h
 have HA:=Lib.hid hA
 have HB:=Lib.hid hB
 have HJ0:=Lib.hid h0
 have HBX:=Lib.hid hbx
 have hcx:=hbx.cell
 have hsz0:=hB.size
 have v0:IntKind.i64.wrap ((ops.length:Int)-1)=(ops.length:Int)-1:=IntWalk.i64_in _ (by omega)
 have HY:=Lib.hid hY
 clear hA hB h0 hbx hY
 refine callsIn_of_wp Tryz.func165 rfl hG ?_ hro
 simp only[Tryz.ntmps165,List.size_toArray,List.length_cons,List.length_nil,Nat.reduceAdd,Nat.reduceSub,Array.replicate_succ,Array.replicate_zero,List.push_toArray,List.append_toArray,List.nil_append,List.cons_append]
 gi_wp2
 clear hcx
 gi_loopw [3] (fun v wr=>Hid (Zdl W0.heap.size Bs ops J W v wr)) (fun i _=>(intOf i+1).toNat)
 case atStart=>exact⟨ops.length,[],by first|rfl|(rw[v0])|(go_num;rw[v0]),Nat.le_refl _,by simp,HJ0.out,KB.refl _ _ _⟩
 obtain⟨k,ys,hv,hk,hys,hj,hkc⟩:=hrel.out
 clear hrel
 have hbw:Below W0.heap.size W0 wr:=HB.out.trans hkc.below
 have HBW:=Lib.hid hbw
 have HK:=Lib.hid hkc
 have HJY:=Lib.hid hj
 have hszw:=hbw.size
 have hcx:wr.cell? ⟨Bs,0,none⟩=some (.slice a ops.length cap):=Boxed.cell (t:=67) (hkc.box _ HBX.out rfl)
 cases k with
 | zero =>
  obtain rfl:=hv
  have e1:((0:Nat):Int)-1=-1:=rfl
  have HYS:=Lib.hid (show ys.map (·.o)=ops.reverse by simpa using hys)
  clear hbw hkc hj hys
  try rw[e1]
  gi_wp2
  go_end0
  exact⟨⟨_,rfl⟩,.inl ⟨ys,HYS.out,HJY.out⟩⟩
 | succ j =>
  have e1:((j+1:Nat):Int)-1=(j:Int):=by omega
  rw[e1] at hv
  obtain rfl:=hv
  clear e1
  have hjl:j<ops.length:=by omega
  obtain⟨b,off,rfl,hb0,c0,c1,c2⟩:=(HA.out.below hbw (Nat.le_refl _)) j hjl
  have hmem:ops.getD j (0,0,0)∈ops:=by rw[plain.getD_lt _ hjl];exact List.getElem_mem hjl
  rw[gY hjl] at hys
  obtain⟨o,ho⟩:∃o,ops.getD j (0,0,0)=o:=⟨_,rfl⟩
  rw[ho] at c0 c1 c2 hys hmem
  clear ho
  obtain⟨ok,on,od⟩:=o
  simp only at c0 c1 c2
  have hlys:=congrArg List.length hys
  simp only[List.length_append,List.length_map,List.length_cons,List.length_reverse] at hlys
  obtain⟨X,hX1,hX2⟩:∃X:BX ops,X.vs=#[.int .i64 (j:Int),.agg #[.int .i64 ok,.int .i64 on,.int .i64 od]]∧X.o=(ok,on,od):=⟨⟨j,ok,on,od,hmem⟩,rfl,rfl⟩
  obtain⟨fn,tmps,assign,body,hy,hR⟩:=HY.out (n-1) ys X wr hj (by omega)
  rw[hX1] at hy
  have HR:=Lib.hid hR
  have HX2:=Lib.hid hX2
  have HYS:=Lib.hid hys
  clear hbw hkc hj hys hR hX1 hX2 hlys hmem
  gi_wp2
  refine HR.out.mono ?_
  rintro e W1 (⟨rfl,hJ1,hk1⟩|⟨rfl,hJx⟩)
  ·have HJ1:=Lib.hid hJ1
   have HK1:=Lib.hid (HK.out.trans hk1)
   clear hJ1 hk1
   gi_wp2
   go_roundw
   case rel=>exact⟨j,ys++[X],by go_num,by omega,by rw[List.map_append,←HYS.out];simp[HX2.out],HJ1.out,HK1.out⟩
   first|(simp[intOf];done)|(simp[intOf];omega)
  gi_wp2
  refine bodyPost_ret (results_none rfl _ _ _) rfl ?_
  refine⟨⟨_,rfl⟩,.inr ⟨ys++[X],?_,hJx⟩⟩
  refine⟨(ops.take j).reverse,?_⟩
  rw[List.map_append,←HYS.out];simp[HX2.out]
theorem K5 {W0:World} (F:Fence) (hd:F.depth=none) (hG:F.fn 165) (hro:F.round=none) (n Bs:Nat) (ops:List Op3) (a:Option Addr) (cap:Nat)
  (hlen:ops.length≤9223372036854775807) (hA:OpA W0 a ops) (w:World) (hB:Below W0.heap.size W0 w) (hbx:Boxed w Bs 67 (.slice a ops.length cap)) :
  SeqStopsK F n Tryz.prog 165 #[.pointer (some ⟨Bs,0,none⟩)] (fun x:BX ops=>x.vs) (KB W0.heap.size Bs) (fun xs=>xs.map (·.o)=ops.reverse) (fun pre=>pre.map (·.o) <+: ops.reverse) ops.length w:=fun l J Jx W hW hJ hJx hY h0 =>
 zw F hd hG hro n l W.heap.size Bs ops a cap hlen hA J Jx hJ (fun m pre x W hj hl=>YieldAt.deep hd m (hY pre x W hj hl)) W (hB.trans (hW.mono hB.size)) ((hW.block Bs hbx.lt).trans hbx) h0
theorem E7 {w:World} (a:Option Addr) (n c:Nat):Calls Tryz.prog 141 #[.slice a n c] w fun e w'=>e=.returned (.func (.func 165) #[] #[.pointer (some ⟨w.heap.size,0,none⟩)])∧w'=w.alloc (.cells #[.slice a n c] 67):=by
 go_enter Tryz.func141,Tryz.ntmps141
 go_wp2
 go_ret
 exact⟨rfl,rfl⟩
end Go.Proofs.YtgigilkpndhddaaGreatDoor.index
namespace Go.Proofs.YtgigilkpndhddaaGreatDoor.lite
set_option linter.unusedVariables false
set_option linter.unusedSimpArgs false
set_option linter.unnecessarySimpa false
set_option maxRecDepth 100000
set_option maxHeartbeats 16000000
open Go.RowKit
theorem YK {B:Nat} {a w:World} (h:Below B a w) {b o:Nat} (hp:B≤b) (u:Value):Below B a (w.setCell ⟨b,o,none⟩ u):=h.setCell (p:=⟨b,o,none⟩) hp u
theorem below_drewN {B:Nat} {a w:World} (h:Below B a w) (n:Nat):Below B a (w.drewN n):=⟨h.os,h.tape,h.output,h.size,h.block⟩
theorem Yu {W w1:World} (hb:Below W.heap.size W w1):(∀b o,b<W.heap.size→w1.cell? ⟨b,o,none⟩=W.cell? ⟨b,o,none⟩)∧(∀b o,b<W.heap.size→w1.frozen? ⟨b,o,none⟩=W.frozen? ⟨b,o,none⟩) :=
 ⟨fun b o h=>hb.cell (p:=⟨b,o,none⟩) h,fun b o h=>hb.frozen (p:=⟨b,o,none⟩) h⟩
theorem Yp (w:World) (o:Obj):(w.alloc o).heap[w.heap.size]?=some o:=by
 show(w.heap.push o)[w.heap.size]?=_
 simp
end Go.Proofs.YtgigilkpndhddaaGreatDoor.lite
