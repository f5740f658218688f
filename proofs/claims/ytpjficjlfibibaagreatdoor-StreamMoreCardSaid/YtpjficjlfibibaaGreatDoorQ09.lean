/-
  Parts of the proof: All, Idx1, Idx2.
-/
import Derived.Test.YtpjficjlfibibaaGreatDoorQ07
import Derived.Test.YtpjficjlfibibaaGreatDoorQ08
import Derived.Shelf.Abstract
namespace Go.Proofs.YtpjficjlfibibaaGreatDoor.clock
open Go.RowKit
set_option linter.unusedVariables false
def allFrom:Int → Int → List (Int × Int × Int) → Int × Int × Int
 | p,f,[] => (p,f,0)
 | p,f,o :: l => let r:=applyP p f o.1 o.2.1 o.2.2;if r.2.2 = 0 then allFrom r.1 r.2.1 l else (0,0,r.2.2)
def allP (p f:Int) (l:List (Int × Int × Int)):Int × Int × Int:=if rightB p f = true then allFrom p f l else (0,0,12)
theorem all_wrong (p f:Int) (v:Value) (w:World) (h:¬ (1 ≤ p ∧ p ≤ 2000 ∧ 0 ≤ f ∧ f ≤ 2000)) :
  Calls Tryz.prog 126 #[.agg #[.int .i64 p,.int .i64 f],v] w fun e w' => e = .returned (ansC 0 0 12) ∧ Below w.heap.size w w':=by
 have HR:=Lib.hid (fun w => right_false p f w h)
 clear h
 go_enter Tryz.func126,Tryz.ntmps126
 go_wp2_with (go_at_call 24;(with_reducible refine (HR.out _).mono ?_);rintro e w1 ⟨rfl,hb1⟩;obtain ⟨hc1,hf1⟩:=arith.bcell hb1;have ha1:w.heap.size < w1.heap.size:=sz_of hb1 (by first | (simp;done) | (simp;omega));have hy1:w.heap.size + 1 < w1.heap.size:=sz_of hb1 (by simp))
 exact bodyPost_ret (v:=.tuple #[.agg #[.int .i64 0,.int .i64 0],.int .i64 12]) (by simp only [results,Tryz.results126];go_simp) rfl ⟨rfl,(by repeat (first | exact Below.refl _ _ | (refine Below.setCell ?_ (by first | omega | (simp;done) | (simp;omega)) _) | (refine Below.alloc ?_ (by first | omega | (simp;done) | (simp;omega)) _) | (refine Below.trans ?_ (hb1.mono (by first | omega | (simp;done) | (simp;omega))))))⟩
def AllRel (B:Nat) (w:World) (p f:Int) (l:List (Int × Int × Int)) (k:Nat) (p' f':Int) (wr:World):Prop :=
 allFrom p' f' (l.drop k) = allFrom p f l ∧ Below B w wr ∧ B + 1 < wr.heap.size ∧
 wr.cell? ⟨B,0,none⟩ = some (.int .i64 p') ∧ wr.cell? ⟨B,1,none⟩ = some (.int .i64 f') ∧ wr.cell? ⟨B + 1,0,none⟩ = some (.int .i64 0) ∧ wr.cell? ⟨B + 1,1,none⟩ = some (.int .i64 0) ∧
 wr.frozen? ⟨B,0,none⟩ = false ∧ wr.frozen? ⟨B,1,none⟩ = false ∧ wr.frozen? ⟨B + 1,0,none⟩ = false ∧ wr.frozen? ⟨B + 1,1,none⟩ = false
theorem allRel_step {B:Nat} {w wr w2:World} {p f:Int} {l:List (Int × Int × Int)} {k:Nat} {p' f' p2 f2:Int} {o o2:Obj} (h:AllRel B w p f l k p' f' wr)
  (hn:allFrom p2 f2 (l.drop (k + 1)) = allFrom p f l) (hb:Below (wr.alloc o).heap.size (wr.alloc o) w2) :
  AllRel B w p f l (k + 1) p2 f2 (((w2.setCell ⟨B,0,none⟩ (.int .i64 p2)).setCell ⟨B,1,none⟩ (.int .i64 f2)).alloc o2):=by
 obtain ⟨hA,hB,hz,c0,c1,c2,c3,z0,z1,z2,z3⟩:=h
 have hs:=hb.size
 rw [World.size_alloc] at hs
 have hk:Below wr.heap.size wr w2:=Below.trans ((Below.refl _ _).alloc (Nat.le_refl _) o) (hb.mono (by rw [World.size_alloc];omega))
 have s0:B < wr.heap.size:=by omega
 have s3:B < w2.heap.size:=by omega
 have s4:B + 1 < w2.heap.size:=by omega
 have d0:=(hk.cell (p:=⟨B,0,none⟩) s0).trans c0
 have d1:=(hk.cell (p:=⟨B,1,none⟩) s0).trans c1
 have d2:=(hk.cell (p:=⟨B + 1,0,none⟩) hz).trans c2
 have d3:=(hk.cell (p:=⟨B + 1,1,none⟩) hz).trans c3
 have y0:=(hk.frozen (p:=⟨B,0,none⟩) s0).trans z0
 have y1:=(hk.frozen (p:=⟨B,1,none⟩) s0).trans z1
 have y2:=(hk.frozen (p:=⟨B + 1,0,none⟩) hz).trans z2
 have y3:=(hk.frozen (p:=⟨B + 1,1,none⟩) hz).trans z3
 have hB2:Below B w w2:=hB.trans (hk.mono (by omega))
 clear hk hb hB c0 c1 c2 c3 z0 z1 z2 z3 hA
 refine ⟨hn,?_,?_,?_,?_,?_,?_,?_,?_,?_,?_⟩
 ·exact Below.alloc (Below.setCell (Below.setCell hB2 (Nat.le_refl _) _) (Nat.le_refl _) _) (by simp;omega) _
 ·simp;omega
 all_goals go_simp
theorem allFrom_ok {l r:List (Int × Int × Int)} {p f k n d p2 f2:Int} {X:Int × Int × Int} (hd:l = (k,n,d) :: r) (hr:applyP p f k n d = (p2,f2,0)) (hA:allFrom p f l = X):allFrom p2 f2 r = X:=by
 rw [hd,allFrom] at hA
 simp only [hr] at hA
 rw [if_pos trivial] at hA;exact hA
theorem allFrom_no {l r:List (Int × Int × Int)} {p f k n d p2 f2 e:Int} {X:Int × Int × Int} (hd:l = (k,n,d) :: r) (hr:applyP p f k n d = (p2,f2,e)) (he:¬ e = 0) (hA:allFrom p f l = X):X = (0,0,e):=by
 rw [hd,allFrom] at hA
 simp only [hr] at hA
 rw [if_neg he] at hA;exact hA.symm
theorem drop_cons3 {l:List (Int × Int × Int)} {k:Nat} (h:k < l.length):l.drop k = l.getD k (0,0,0) :: l.drop (k + 1):=by
 rw [List.drop_eq_getElem_cons h,plain.getD_lt _ h]
theorem all_row (p f:Int) (a:Option Addr) (cap:Nat) (l:List (Int × Int × Int)) (w:World) (h:1 ≤ p ∧ p ≤ 2000 ∧ 0 ≤ f ∧ f ≤ 2000) (hl:l.length ≤ 9223372036854775807)
  (hcell:∀ k,k < l.length → ∃ b off,a = some ⟨b,off,none⟩ ∧ b < w.heap.size ∧ w.cell? ⟨b,off + k * 3,none⟩ = some (.int .i64 (l.getD k (0,0,0)).1) ∧ w.cell? ⟨b,off + k * 3 + 1,none⟩ = some (.int .i64 (l.getD k (0,0,0)).2.1) ∧ w.cell? ⟨b,off + k * 3 + 2,none⟩ = some (.int .i64 (l.getD k (0,0,0)).2.2)) :
  Calls Tryz.prog 126 #[.agg #[.int .i64 p,.int .i64 f],.slice a l.length cap] w fun e w' => e = .returned (ansT (allFrom p f l)) ∧ Below w.heap.size w w':=by
 have HR:=Lib.hid (fun w => right_true p f w h)
 have HC:=Lib.hid hcell
 clear h hcell
 go_enter Tryz.func126,Tryz.ntmps126
 go_wp2_with (go_at_call 24;(with_reducible refine (HR.out _).mono ?_);rintro e w1 ⟨rfl,hb1⟩;obtain ⟨hc1,hf1⟩:=arith.bcell hb1;have ha1:w.heap.size < w1.heap.size:=sz_of hb1 (by first | (simp;done) | (simp;omega));have hy1:w.heap.size + 1 < w1.heap.size:=sz_of hb1 (by simp))
 go_loopw [16] (fun i wr => ∃ (k:Nat) (p' f':Int),k ≤ l.length ∧ i = .int .i64 k ∧ AllRel w.heap.size w p f l k p' f' wr) (fun i _ => l.length - (intOf i).toNat)
 case atStart =>
  refine ⟨0,p,f,by omega,rfl,rfl,?_,hy1,?_,?_,?_,?_,?_,?_,?_,?_⟩
  ·exact Below.trans (((Below.refl _ _).alloc (by first | omega | (simp;done) | (simp;omega)) _).alloc (by first | omega | (simp;done) | (simp;omega)) _) (hb1.mono (by first | omega | (simp;done) | (simp;omega)))
  all_goals go_simp
 case round =>
  obtain ⟨k,p',f',hk,rfl,hrel⟩:=hrel
  have HREL:=Lib.hid hrel
  obtain ⟨hA,hB,hz,c0,c1,c2,c3,z0,z1,z2,z3⟩:=hrel
  have HA:=Lib.hid hA
  have HB:=Lib.hid hB
  clear hA hB hc1 hf1 hb1 ha1 hy1
  have ha:w.heap.size < wr.heap.size:=by omega
  by_cases hlt:k < l.length
  ·have hd:=Lib.hid (drop_cons3 hlt)
   obtain ⟨b,off,rfl,hb0,e0,e1,e2⟩:=HC.out k hlt
   rw [← HB.out.cell (p:=⟨b,_,none⟩) hb0] at e0 e1 e2
   generalize l.getD k (0,0,0) = o at *
   obtain ⟨ok,on,od⟩:=o
   simp only at e0 e1 e2
   generalize hr:applyP p' f' ok on od = r
   obtain ⟨p2,f2,er⟩:=r
   have HAp:=Lib.hid (fun w => apply_any p' f' ok on od w)
   simp only [hr,ansT,ansC] at HAp
   have Hr:=Lib.hid hr
   clear hr
   have n1:¬ w.heap.size = wr.heap.size:=by omega
   have n2:¬ w.heap.size + 1 = wr.heap.size:=by omega
   have s1:w.heap.size < wr.heap.size + 1:=by omega
   have s2:w.heap.size + 1 < wr.heap.size + 1:=by omega
   by_cases he:er = 0
   ·subst he
    go_wp2_with (go_at_call 124;(with_reducible refine (HAp.out _).mono ?_);rintro e w2 ⟨rfl,hb2⟩;have HB2:=Lib.hid hb2;obtain ⟨hc2,hf2⟩:=arith.bcell hb2;have s3:w.heap.size < w2.heap.size:=sz_of hb2 (by first | omega | (simp;done) | (simp;omega));have s4:w.heap.size + 1 < w2.heap.size:=sz_of hb2 (by first | omega | (simp;done) | (simp;omega));have n3:¬ w.heap.size = w2.heap.size:=(by omega);have n4:¬ w.heap.size + 1 = w2.heap.size:=(by omega))
    go_roundw
    case rel => exact ⟨k + 1,p2,f2,by omega,by go_num,allRel_step HREL.out (allFrom_ok hd.out Hr.out HA.out) HB2.out⟩
    case measure => simp [intOf];omega
   ·have hne:(er != 0) = true:=by simpa using he
    have E:=Lib.hid (allFrom_no hd.out Hr.out he HA.out)
    clear he
    go_wp2_with (go_at_call 124;(with_reducible refine (HAp.out _).mono ?_);rintro e w2 ⟨rfl,hb2⟩;have HB2:=Lib.hid hb2;obtain ⟨hc2,hf2⟩:=arith.bcell hb2;have s3:w.heap.size < w2.heap.size:=sz_of hb2 (by first | omega | (simp;done) | (simp;omega));have s4:w.heap.size + 1 < w2.heap.size:=sz_of hb2 (by first | omega | (simp;done) | (simp;omega));have n3:¬ w.heap.size = w2.heap.size:=(by omega);have n4:¬ w.heap.size + 1 = w2.heap.size:=(by omega))
    exact bodyPost_ret (v:=.tuple #[.agg #[.int .i64 0,.int .i64 0],.int .i64 er]) (by simp only [results,Tryz.results126];go_simp) rfl ⟨by rw [E.out];rfl,(by repeat (first | exact Below.refl _ _ | exact HB.out | (refine Below.setCell ?_ (by first | omega | (simp;done) | (simp;omega)) _) | (refine Below.alloc ?_ (by first | omega | (simp;done) | (simp;omega)) _) | (refine Below.trans ?_ (HB2.out.mono (by first | omega | (simp;done) | (simp;omega))))))⟩
  ·have hk':k = l.length:=by omega
   have E:Hid (allFrom p f l = (p',f',0)):=by have:=HA.out;rw [hk',List.drop_length,allFrom] at this;exact this.symm
   subst hk'
   go_wp2
   exact bodyPost_ret (v:=.tuple #[.agg #[.int .i64 p',.int .i64 f'],.int .i64 0]) (by simp only [results,Tryz.results126];go_simp) rfl ⟨by rw [E.out];rfl,(by repeat (first | exact Below.refl _ _ | exact HB.out | (refine Below.setCell ?_ (by first | omega | (simp;done) | (simp;omega)) _) | (refine Below.alloc ?_ (by first | omega | (simp;done) | (simp;omega)) _)))⟩
end Go.Proofs.YtpjficjlfibibaaGreatDoor.clock
namespace Go.Proofs.YtpjficjlfibibaaGreatDoor.index
open Go.RowKit clock
set_option linter.unusedVariables false
abbrev Op3:=Int × Int × Int
def wrongB (o:Op3):Bool:=if o.1 = 3 ∨ o.1 = 4 then decide (o.2.1 < 1) else decide (o.1 < 3 ∨ 8 < o.1)
def beginsB (o:Op3):Bool:=decide (o.1 = 6 ∨ o.1 = 8)
def delaysB (o:Op3):Bool:=decide (o.1 = 6 ∨ (o.1 = 5 ∧ ¬ o.2.1 = 0))
theorem wrong_any (k n d:Int) (w:World) :
  Calls Tryz.prog 106 #[.agg #[.int .i64 k,.int .i64 n,.int .i64 d]] w fun e w' => e = .returned (.bool (wrongB (k,n,d))) ∧ Below w.heap.size w w':=by
 by_cases h34:k = 3 ∨ k = 4
 ·rcases h34 with rfl | rfl
  all_goals
   go_enter Tryz.func106,Tryz.ntmps106
   go_wp2
   go_ret
   exact ⟨bool_eq (by simp [wrongB]),box1 _⟩
 ·have h3:(k == 3) = false:=beq_eq_false_iff_ne.2 (by omega)
  have h4:(k == 4) = false:=beq_eq_false_iff_ne.2 (by omega)
  have E:Hid (wrongB (k,n,d) = decide (k < 3 ∨ 8 < k)):=by unfold wrongB;exact if_neg h34
  clear h34
  by_cases hl:k < 3
  ·go_enter Tryz.func106,Tryz.ntmps106
   go_wp2
   go_ret
   exact ⟨bool_eq (by rw [E.out];simp;omega),box1 _⟩
  ·have hl':decide (k < 3) = false:=decide_eq_false hl
   go_enter Tryz.func106,Tryz.ntmps106
   go_wp2
   go_ret
   exact ⟨bool_eq (by rw [E.out];simp;omega),box1 _⟩
theorem begins_any (k n d:Int) (w:World) :
  Calls Tryz.prog 108 #[.agg #[.int .i64 k,.int .i64 n,.int .i64 d]] w fun e w' => e = .returned (.bool (beginsB (k,n,d))) ∧ Below w.heap.size w w':=by
 by_cases h6:k = 6
 ·subst h6
  go_enter Tryz.func108,Tryz.ntmps108
  go_wp2
  go_ret
  exact ⟨bool_eq (by simp [beginsB]),box1 _⟩
 ·have h6':(k == 6) = false:=beq_eq_false_iff_ne.2 h6
  have E:Hid (beginsB (k,n,d) = (k == 8)):=by unfold beginsB;show _ = _;cases h:(k == 8) <;> simp_all
  clear h6
  go_enter Tryz.func108,Tryz.ntmps108
  go_wp2
  go_ret
  exact ⟨bool_eq (by rw [E.out]),box1 _⟩
theorem delays_any (k n d:Int) (w:World) :
  Calls Tryz.prog 183 #[.agg #[.int .i64 k,.int .i64 n,.int .i64 d]] w fun e w' => e = .returned (.bool (delaysB (k,n,d))) ∧ Below w.heap.size w w':=by
 by_cases h6:k = 6
 ·subst h6
  go_enter Tryz.func183,Tryz.ntmps183
  go_wp2
  go_ret
  exact ⟨bool_eq (by simp [delaysB]),box1 _⟩
 ·have h6':(k == 6) = false:=beq_eq_false_iff_ne.2 h6
  by_cases h5:k = 5
  ·subst h5
   have E:Hid (delaysB (5,n,d) = (n != 0)):=by unfold delaysB;show _ = _;simp;cases h:(n != 0) <;> simp_all
   clear h6
   go_enter Tryz.func183,Tryz.ntmps183
   go_wp2
   go_ret
   exact ⟨bool_eq (by rw [E.out]),box1 _⟩
  ·have h5':(k == 5) = false:=beq_eq_false_iff_ne.2 h5
   have E:Hid (delaysB (k,n,d) = false):=by unfold delaysB;show _ = _;simp [h6,h5]
   clear h6 h5
   go_enter Tryz.func183,Tryz.ntmps183
   go_wp2
   go_ret
   exact ⟨bool_eq (by rw [E.out]),box1 _⟩
def stepP (o:Op3) (n:Int):Option Int :=
 if o.1 = 3 then some (n / o.2.1)
 else if o.1 = 4 then (if n * o.2.1 ≤ 1099511627776 then some (n * o.2.1) else none)
 else if o.1 = 6 ∨ o.1 = 8 then some (n - 1)
 else if o.1 = 7 then (if n < 1099511627776 then some (n + 1) else none)
 else some n
def BefAns (x:Option Int) (e:Ending):Prop:=match x with
 | some t => e = .returned (.tuple #[.int .i64 t,.bool true])
 | none => ∃ t,e = .returned (.tuple #[.int .i64 t,.bool false])
theorem quo_le {n N:Int} (hn:0 ≤ n) (hN:1 ≤ N):0 ≤ n / N ∧ n / N ≤ n:=by
 have h1:=Int.ediv_nonneg hn (show 0 ≤ N by omega)
 have h2:=Int.ediv_le_self N hn
 exact ⟨h1,h2⟩
theorem before_any (k N d n:Int) (w:World) (hw:wrongB (k,N,d) = false) (h0:0 ≤ n) (h1:n ≤ 1099511627776) (hb:¬ (n = 0 ∧ beginsB (k,N,d) = true)) :
  Calls Tryz.prog 109 #[.agg #[.int .i64 k,.int .i64 N,.int .i64 d],.int .i64 n] w fun e w' => BefAns (stepP (k,N,d) n) e ∧ Below w.heap.size w w':=by
 by_cases h3:k = 3
 ·subst h3
  have hN:1 ≤ N:=by simp [wrongB] at hw;omega
  have hq:=quo_le h0 hN
  have q1:IntKind.i64.wrap (n.tdiv N) = n / N:=by rw [Int.tdiv_eq_ediv_of_nonneg h0,IntWalk.i64_in _ (by omega)]
  have q2:(N == 0) = false:=beq_eq_false_iff_ne.2 (by omega)
  have q3:¬ N = 0:=by omega
  have E:Hid (stepP (3,N,d) n = some (n / N)):=rfl
  clear hw hb hq
  go_enter Tryz.func109,Tryz.ntmps109
  go_wp2
  go_ret2
  exact ⟨by rw [E.out];rfl,(by repeat (first | (with_reducible exact Below.refl _ _) | ((with_reducible refine below_setAt ?_ ?_ _);(rotate_left;focus (first | omega | (simp;done) | (simp;omega)))) | ((with_reducible refine Below.alloc ?_ ?_ _);(rotate_left;focus (first | omega | (simp;done) | (simp;omega)))) | (with_reducible refine below_drewN ?_ _) | (with_reducible refine Below.drew ?_)))⟩
 ·have k3:(k == 3) = false:=beq_eq_false_iff_ne.2 h3
  by_cases h4:k = 4
  ·subst h4
   have hN:1 ≤ N:=by simp [wrongB] at hw;omega
   have hq:=quo_le (n:=1099511627776) (by omega) hN
   have q1:IntKind.i64.wrap ((1099511627776:Int).tdiv N) = 1099511627776 / N:=by rw [Int.tdiv_eq_ediv_of_nonneg (by omega),IntWalk.i64_in _ (by omega)]
   have q2:(N == 0) = false:=beq_eq_false_iff_ne.2 (by omega)
   have q3:¬ N = 0:=by omega
   by_cases hm:n * N ≤ 1099511627776
   ·have hle:n ≤ 1099511627776 / N:=(Int.le_ediv_iff_mul_le (by omega)).2 hm
    have hge:=Int.mul_nonneg h0 (show 0 ≤ N by omega)
    have v1:IntKind.i64.wrap (n * N) = n * N:=IntWalk.i64_in _ (by omega)
    have E:Hid (stepP (4,N,d) n = some (n * N)):=by unfold stepP;show _ = _;simp [hm]
    clear hw hb hm hge k3
    go_enter Tryz.func109,Tryz.ntmps109
    go_wp2
    go_quiet (fail)
    go_wp2
    go_ret2
    exact ⟨by rw [E.out];rfl,arith.below_drewN (box1 _) _⟩
   ·have hle:¬ n ≤ 1099511627776 / N:=fun h => hm ((Int.le_ediv_iff_mul_le (by omega)).1 h)
    have hle':1099511627776 / N < n:=by omega
    have f1:decide (n ≤ 1099511627776 / N) = false:=decide_eq_false hle
    have E:Hid (stepP (4,N,d) n = none):=by unfold stepP;show _ = _;simp [hm]
    clear hw hb hm hle k3
    go_enter Tryz.func109,Tryz.ntmps109
    go_wp2
    go_quiet (fail)
    go_wp2
    go_ret2
    exact ⟨by rw [E.out];exact ⟨_,rfl⟩,arith.below_drewN (box1 _) _⟩
  ·have k4:(k == 4) = false:=beq_eq_false_iff_ne.2 h4
   by_cases h68:k = 6 ∨ k = 8
   ·have hn:1 ≤ n:=by
     have:beginsB (k,N,d) = true:=by simp [beginsB,h68]
     have:¬ n = 0:=fun h => hb ⟨h,this⟩
     omega
    have E:Hid (stepP (k,N,d) n = some (n - 1)):=by unfold stepP;show _ = _;simp [h3,h4,h68]
    clear hw hb h3 h4
    rcases h68 with rfl | rfl
    all_goals
     go_enter Tryz.func109,Tryz.ntmps109
     go_wp2
     go_ret2
     exact ⟨by rw [E.out];rfl,(by repeat (first | (with_reducible exact Below.refl _ _) | ((with_reducible refine below_setAt ?_ ?_ _);(rotate_left;focus (first | omega | (simp;done) | (simp;omega)))) | ((with_reducible refine Below.alloc ?_ ?_ _);(rotate_left;focus (first | omega | (simp;done) | (simp;omega)))) | (with_reducible refine below_drewN ?_ _) | (with_reducible refine Below.drew ?_)))⟩
   ·have k6:(k == 6) = false:=beq_eq_false_iff_ne.2 (by omega)
    have k8:(k == 8) = false:=beq_eq_false_iff_ne.2 (by omega)
    by_cases h7:k = 7
    ·subst h7
     by_cases hm:n < 1099511627776
     ·have E:Hid (stepP (7,N,d) n = some (n + 1)):=by unfold stepP;show _ = _;simp [hm]
      clear hw hb
      go_enter Tryz.func109,Tryz.ntmps109
      go_wp2
      go_ret2
      exact ⟨by rw [E.out];rfl,(by repeat (first | (with_reducible exact Below.refl _ _) | ((with_reducible refine below_setAt ?_ ?_ _);(rotate_left;focus (first | omega | (simp;done) | (simp;omega)))) | ((with_reducible refine Below.alloc ?_ ?_ _);(rotate_left;focus (first | omega | (simp;done) | (simp;omega)))) | (with_reducible refine below_drewN ?_ _) | (with_reducible refine Below.drew ?_)))⟩
     ·have E:Hid (stepP (7,N,d) n = none):=by unfold stepP;show _ = _;simp [hm]
      clear hw hb
      go_enter Tryz.func109,Tryz.ntmps109
      go_wp2
      go_ret2
      exact ⟨by rw [E.out];exact ⟨_,rfl⟩,(by repeat (first | (with_reducible exact Below.refl _ _) | ((with_reducible refine below_setAt ?_ ?_ _);(rotate_left;focus (first | omega | (simp;done) | (simp;omega)))) | ((with_reducible refine Below.alloc ?_ ?_ _);(rotate_left;focus (first | omega | (simp;done) | (simp;omega)))) | (with_reducible refine below_drewN ?_ _) | (with_reducible refine Below.drew ?_)))⟩
    ·have k7:(k == 7) = false:=beq_eq_false_iff_ne.2 h7
     have E:Hid (stepP (k,N,d) n = some n):=by unfold stepP;show _ = _;simp [h3,h4,h68,h7]
     clear hw hb h3 h4 h68 h7
     go_enter Tryz.func109,Tryz.ntmps109
     go_wp2
     go_ret2
     exact ⟨by rw [E.out];rfl,(by repeat (first | (with_reducible exact Below.refl _ _) | ((with_reducible refine below_setAt ?_ ?_ _);(rotate_left;focus (first | omega | (simp;done) | (simp;omega)))) | ((with_reducible refine Below.alloc ?_ ?_ _);(rotate_left;focus (first | omega | (simp;done) | (simp;omega)))) | (with_reducible refine below_drewN ?_ _) | (with_reducible refine Below.drew ?_)))⟩
def OpA (w:World) (a:Option Addr) (l:List Op3):Prop:=∀ k,k < l.length → ∃ b off,a = some ⟨b,off,none⟩ ∧ b < w.heap.size ∧
 w.cell? ⟨b,off + k * 3,none⟩ = some (.int .i64 (l.getD k (0,0,0)).1) ∧ w.cell? ⟨b,off + k * 3 + 1,none⟩ = some (.int .i64 (l.getD k (0,0,0)).2.1) ∧ w.cell? ⟨b,off + k * 3 + 2,none⟩ = some (.int .i64 (l.getD k (0,0,0)).2.2)
theorem OpA.below {B:Nat} {w w1:World} {a:Option Addr} {l:List Op3} (h:OpA w a l) (hb:Below B w w1) (hB:w.heap.size ≤ B):OpA w1 a l:=by
 intro k hk
 obtain ⟨b,off,rfl,h1,h2,h3,h4⟩:=h k hk
 have hlt:b < B:=by omega
 exact ⟨b,off,rfl,Nat.lt_of_lt_of_le h1 hb.size,(hb.cell (p:=⟨b,_,none⟩) hlt).trans h2,(hb.cell (p:=⟨b,_,none⟩) hlt).trans h3,(hb.cell (p:=⟨b,_,none⟩) hlt).trans h4⟩
theorem any_take {P:Op3 → Bool} {l:List Op3} {k:Nat} (hk:k < l.length) (h:(l.take k).any P = false) (h2:P (l.getD k (0,0,0)) = false):(l.take (k + 1)).any P = false:=by
 rw [List.take_succ_eq_append_getElem hk,List.any_append,h,← plain.getD_lt (0,0,0) hk];simp only [List.any_cons,List.any_nil,h2,Bool.or_false]
theorem any_hit {P:Op3 → Bool} {l:List Op3} {k:Nat} (hk:k < l.length) (h2:P (l.getD k (0,0,0)) = true):l.any P = true:=by
 rw [List.any_eq_true];rw [plain.getD_lt _ hk] at h2;exact ⟨_,List.getElem_mem hk,h2⟩
theorem indexFunc_wrong
  (l:List Op3) (a:Option Addr) (cap:Nat) (w:World) (hl:l.length ≤ 9223372036854775807) (hA:OpA w a l) :
  Calls Tryz.prog 147 #[.slice a l.length cap,.func (.func 106) #[] #[]] w fun e w' => (∃ i:Int,e = .returned (.int .i64 i) ∧ l.any wrongB = decide (0 ≤ i)) ∧ Below w.heap.size w w':=by
 have HP:=Lib.hid wrong_any
 have HA:=Lib.hid hA
 clear hA
 go_enter Tryz.func147,Tryz.ntmps147
 go_wp2
 go_loopw [8] (fun i wr => ∃ (k:Nat),k ≤ l.length ∧ i = .int .i64 k ∧ Hid (Below w.heap.size w wr ∧ (l.take k).any wrongB = false)) (fun i _ => l.length - (intOf i).toNat)
 case atStart => exact ⟨0,by omega,rfl,Below.refl _ _,by simp⟩
 case round =>
  obtain ⟨k,hk,rfl,hrel⟩:=hrel
  have HR:=hrel
  clear hrel
  by_cases hlt:k < l.length
  ·obtain ⟨b,off,rfl,hb,c0,c1,c2⟩:=(HA.out.below HR.out.1 (Nat.le_refl _)) k hlt
   have HC:=Lib.hid (HP.out (l.getD k (0,0,0)).1 (l.getD k (0,0,0)).2.1 (l.getD k (0,0,0)).2.2)
   have eta:((l.getD k (0,0,0)).1,(l.getD k (0,0,0)).2.1,(l.getD k (0,0,0)).2.2) = l.getD k (0,0,0):=rfl
   rw [eta] at HC
   obtain ⟨x,hx⟩:∃ x,l.getD k (0,0,0) = x:=⟨_,rfl⟩
   have HX:=Lib.hid hx
   rw [hx] at c0 c1 c2 HC
   clear hx eta
   cases hpx:wrongB x with
   | true =>
    rw [hpx] at HC
    go_wp2_with (go_at_call 106;(with_reducible refine (HC.out _).mono ?_);rintro e w1 ⟨rfl,hb1⟩;have HB1:=Lib.hid hb1;clear hb1)
    go_ret
    exact ⟨⟨_,rfl,by rw [any_hit hlt (by rw [HX.out,hpx])];simp⟩,HR.out.1.trans (HB1.out.mono HR.out.1.size)⟩
   | false =>
    rw [hpx] at HC
    go_wp2_with (go_at_call 106;(with_reducible refine (HC.out _).mono ?_);rintro e w1 ⟨rfl,hb1⟩;have HB1:=Lib.hid hb1;clear hb1)
    go_roundw
    case rel => exact ⟨k + 1,by omega,by go_num,HR.out.1.trans (HB1.out.mono HR.out.1.size),any_take (P:=_) hlt HR.out.2 (by rw [HX.out,hpx])⟩
    case measure => simp [intOf];omega
  ·have hk':k = l.length:=by omega
   subst hk'
   have E:Hid (l.any wrongB = false):=by have:=HR.out.2;rw [List.take_length] at this;exact this
   go_wp2
   go_ret
   exact ⟨⟨_,rfl,by rw [E.out];decide⟩,HR.out.1⟩
theorem containsFunc_wrong
  (l:List Op3) (a:Option Addr) (cap:Nat) (w:World) (hl:l.length ≤ 9223372036854775807) (hA:OpA w a l) :
  Calls Tryz.prog 105 #[.slice a l.length cap,.func (.func 106) #[] #[]] w fun e w' => e = .returned (.bool (l.any wrongB)) ∧ Below w.heap.size w w':=by
 have HC:=Lib.hid (indexFunc_wrong l a cap w hl hA)
 clear hA
 go_enter Tryz.func105,Tryz.ntmps105
 go_wp2_with (go_at_call 147;(with_reducible refine HC.out.mono ?_);rintro e w1 ⟨⟨i,rfl,hi⟩,hb1⟩;have HI:=Lib.hid hi;have HB1:=Lib.hid hb1;clear hi hb1)
 go_ret
 exact ⟨bool_eq (by rw [HI.out]),HB1.out⟩
theorem indexFunc_delays
  (l:List Op3) (a:Option Addr) (cap:Nat) (w:World) (hl:l.length ≤ 9223372036854775807) (hA:OpA w a l) :
  Calls Tryz.prog 147 #[.slice a l.length cap,.func (.func 183) #[] #[]] w fun e w' => (∃ i:Int,e = .returned (.int .i64 i) ∧ l.any delaysB = decide (0 ≤ i)) ∧ Below w.heap.size w w':=by
 have HP:=Lib.hid delays_any
 have HA:=Lib.hid hA
 clear hA
 go_enter Tryz.func147,Tryz.ntmps147
 go_wp2
 go_loopw [8] (fun i wr => ∃ (k:Nat),k ≤ l.length ∧ i = .int .i64 k ∧ Hid (Below w.heap.size w wr ∧ (l.take k).any delaysB = false)) (fun i _ => l.length - (intOf i).toNat)
 case atStart => exact ⟨0,by omega,rfl,Below.refl _ _,by simp⟩
 case round =>
  obtain ⟨k,hk,rfl,hrel⟩:=hrel
  have HR:=hrel
  clear hrel
  by_cases hlt:k < l.length
  ·obtain ⟨b,off,rfl,hb,c0,c1,c2⟩:=(HA.out.below HR.out.1 (Nat.le_refl _)) k hlt
   have HC:=Lib.hid (HP.out (l.getD k (0,0,0)).1 (l.getD k (0,0,0)).2.1 (l.getD k (0,0,0)).2.2)
   have eta:((l.getD k (0,0,0)).1,(l.getD k (0,0,0)).2.1,(l.getD k (0,0,0)).2.2) = l.getD k (0,0,0):=rfl
   rw [eta] at HC
   obtain ⟨x,hx⟩:∃ x,l.getD k (0,0,0) = x:=⟨_,rfl⟩
   have HX:=Lib.hid hx
   rw [hx] at c0 c1 c2 HC
   clear hx eta
   cases hpx:delaysB x with
   | true =>
    rw [hpx] at HC
    go_wp2_with (go_at_call 183;(with_reducible refine (HC.out _).mono ?_);rintro e w1 ⟨rfl,hb1⟩;have HB1:=Lib.hid hb1;clear hb1)
    go_ret
    exact ⟨⟨_,rfl,by rw [any_hit hlt (by rw [HX.out,hpx])];simp⟩,HR.out.1.trans (HB1.out.mono HR.out.1.size)⟩
   | false =>
    rw [hpx] at HC
    go_wp2_with (go_at_call 183;(with_reducible refine (HC.out _).mono ?_);rintro e w1 ⟨rfl,hb1⟩;have HB1:=Lib.hid hb1;clear hb1)
    go_roundw
    case rel => exact ⟨k + 1,by omega,by go_num,HR.out.1.trans (HB1.out.mono HR.out.1.size),any_take (P:=_) hlt HR.out.2 (by rw [HX.out,hpx])⟩
    case measure => simp [intOf];omega
  ·have hk':k = l.length:=by omega
   subst hk'
   have E:Hid (l.any delaysB = false):=by have:=HR.out.2;rw [List.take_length] at this;exact this
   go_wp2
   go_ret
   exact ⟨⟨_,rfl,by rw [E.out];decide⟩,HR.out.1⟩
theorem containsFunc_delays
  (l:List Op3) (a:Option Addr) (cap:Nat) (w:World) (hl:l.length ≤ 9223372036854775807) (hA:OpA w a l) :
  Calls Tryz.prog 105 #[.slice a l.length cap,.func (.func 183) #[] #[]] w fun e w' => e = .returned (.bool (l.any delaysB)) ∧ Below w.heap.size w w':=by
 have HC:=Lib.hid (indexFunc_delays l a cap w hl hA)
 clear hA
 go_enter Tryz.func105,Tryz.ntmps105
 go_wp2_with (go_at_call 147;(with_reducible refine HC.out.mono ?_);rintro e w1 ⟨⟨i,rfl,hi⟩,hb1⟩;have HI:=Lib.hid hi;have HB1:=Lib.hid hb1;clear hi hb1)
 go_ret
 exact ⟨bool_eq (by rw [HI.out]),HB1.out⟩
theorem later_any (l:List Op3) (a:Option Addr) (cap:Nat) (w:World) (hl:l.length ≤ 9223372036854775807) (hA:OpA w a l) :
  Calls Tryz.prog 159 #[.slice a l.length cap] w fun e w' => e = .returned (.bool (l.any delaysB)) ∧ Below w.heap.size w w':=by
 have HC:=Lib.hid (containsFunc_delays l a cap w hl hA)
 clear hA
 go_enter Tryz.func159,Tryz.ntmps159
 go_wp2_with (go_at_call 105;(with_reducible refine HC.out.mono ?_);rintro e w1 ⟨rfl,hb1⟩;have HB1:=Lib.hid hb1;clear hb1)
 go_ret
 exact ⟨rfl,HB1.out⟩
open Go.RowKit Go.Shelf clock syn
set_option linter.unusedSimpArgs false
attribute [local go_sem] Oper.semAt_some
structure KB (n₀ Bs:Nat) (W W':World):Prop where
 below:Below n₀ W W'
 box:∀ (o:Obj),W.heap[Bs]? = some o → o.isCells = true → W'.heap[Bs]? = some o
theorem KB.refl (n₀ Bs:Nat) (W:World):KB n₀ Bs W W:=⟨Below.refl _ _,fun _ h _ => h⟩
theorem KB.trans {n₀ Bs:Nat} {A B C:World} (h:KB n₀ Bs A B) (k:KB n₀ Bs B C):KB n₀ Bs A C:=⟨h.below.trans k.below,fun o ho hc => k.box o (h.box o ho hc) hc⟩
theorem KB.alloc {n₀ Bs:Nat} {A W:World} (h:KB n₀ Bs A W) (hn:n₀ ≤ W.heap.size) (o:Obj):KB n₀ Bs A (W.alloc o) :=
 h.trans ⟨(Below.refl _ _).alloc hn _,fun x hk _ => (Below.heap_alloc W o Bs (Array.getElem?_eq_some_iff.1 hk).1).trans hk⟩
theorem KB.putObj {n₀ Bs:Nat} (W:World) (l:Nat) (o o':Obj) (hl:n₀ ≤ l) (h:W.heap[l]? = some o) (hc:o.isCells = false):KB n₀ Bs W (W.putObj l o') :=
 ⟨⟨rfl,rfl,rfl,by simp,fun k hk => World.putObj_heap_other (fun e => by omega)⟩,fun x hk hx => (World.putObj_heap_other (fun e => by subst e;rw [h] at hk;injection hk with hk;subst hk;rw [hc] at hx;cases hx)).trans hk⟩
theorem KB.of_below {n₀ Bs:Nat} {A W W':World} (h:KB n₀ Bs A W) (hb:Below W.heap.size W W') (hn:n₀ ≤ W.heap.size):KB n₀ Bs A W' :=
 h.trans ⟨hb.mono hn,fun o hk _ => (hb.block Bs (lt_of_block hk)).trans hk⟩
theorem KB.setCell {n₀ Bs:Nat} {A W:World} (h:KB n₀ Bs A W) {b:Nat} (hn:n₀ ≤ b) (hne:Bs ≠ b) (v:Value):KB n₀ Bs A (W.setCell ⟨b,0,none⟩ v) :=
 h.trans ⟨(Below.refl _ _).setCell (p:=⟨b,0,none⟩) hn v,fun o hk _ => ((grownBy_setCell' W b v).block Bs (lt_of_block hk) (by simp;exact hne)).trans hk⟩
structure BX (l:List Op3) where
 i:Int
 k:Int
 n:Int
 d:Int
 mem:(k,n,d) ∈ l
def BX.o {l:List Op3} (x:BX l):Op3:=(x.k,x.n,x.d)
def BX.vs {l:List Op3} (x:BX l):Array Value:=#[.int .i64 x.i,.agg #[.int .i64 x.k,.int .i64 x.n,.int .i64 x.d]]
def BkRel (n₀ Bs:Nat) (l:List Op3) (J:List (BX l) → World → Prop) (W:World) (v:Value) (wr:World):Prop :=
 ∃ (k:Nat) (ys:List (BX l)),v = .int .i64 ((k:Int) - 1) ∧ k ≤ l.length ∧ ys.map (·.o) ++ (l.take k).reverse = l.reverse ∧ J ys wr ∧ KB n₀ Bs W wr
theorem take_rev {l:List Op3} {j:Nat} (h:j < l.length):(l.take (j + 1)).reverse = l.getD j (0,0,0) :: (l.take j).reverse:=by
 rw [List.take_succ_eq_append_getElem h,List.reverse_append,← plain.getD_lt (0,0,0) h];rfl
set_option maxRecDepth 100000 in
set_option maxHeartbeats 4000000 in
theorem backward1_in {W0:World} (F:Fence) (hd:F.depth = none) (hG:F.fn 148) (hro:F.round = none) (n l B Bs:Nat) (ops:List Op3) (a:Option Addr) (cap:Nat)
  (hlen:ops.length ≤ 9223372036854775807) (hA:OpA W0 a ops) (J Jx:List (BX ops) → World → Prop) (hJ:AbidesFrom B J)
  (hY:∀ m pre x W,J pre W → pre.length < ops.length → YieldAt F m Tryz.prog l x.vs W fun e W' => (e = .returned (.bool true) ∧ J (pre ++ [x]) W' ∧ KB W0.heap.size Bs W W') ∨ (e = .returned (.bool false) ∧ Jx (pre ++ [x]) W'))
  (W:World) (hB:Below W0.heap.size W0 W) (hbx:Boxed W Bs 71 (.slice a ops.length cap)) (h0:J [] W) :
  CallsIn F n Tryz.prog 148 #[.func (.yield l) #[] #[],.pointer (some ⟨Bs,0,none⟩)] W fun e W' => (∃ v,e = .returned v) ∧
   ((∃ xs:List (BX ops),xs.map (·.o) = ops.reverse ∧ J xs W') ∨ (∃ pre:List (BX ops),pre.map (·.o) <+: ops.reverse ∧ Jx pre W')):=by
 have hdd:∀ k:Nat,(F.depth.isSome = true → 1 ≤ k):=fun k h => by rw [hd] at h;cases h
 have HA:=Lib.hid hA
 have HB:=Lib.hid hB
 have HJ0:=Lib.hid h0
 have HBX:=Lib.hid hbx
 have hcx:=hbx.cell
 have hsz0:=hB.size
 have v0:IntKind.i64.wrap ((ops.length:Int) - 1) = (ops.length:Int) - 1:=IntWalk.i64_in _ (by omega)
 have HY:=Lib.hid hY
 clear hA hB h0 hbx hY
 refine callsIn_of_wp Tryz.func148 rfl hG ?_ hro
 simp only [Tryz.ntmps148,List.size_toArray,List.length_cons,List.length_nil,Nat.reduceAdd,Nat.reduceSub,Array.replicate_succ,Array.replicate_zero,List.push_toArray,List.append_toArray,List.nil_append,List.cons_append]
 gi_wp2
 clear hcx
 gi_loopw [3] (fun v wr => Hid (BkRel W0.heap.size Bs ops J W v wr)) (fun i _ => (intOf i + 1).toNat)
 case atStart => exact ⟨ops.length,[],by first | rfl | (rw [v0]) | (go_num;rw [v0]),Nat.le_refl _,by simp,HJ0.out,KB.refl _ _ _⟩
 case round =>
  obtain ⟨k,ys,hv,hk,hys,hj,hkc⟩:=hrel.out
  clear hrel
  have hbw:Below W0.heap.size W0 wr:=HB.out.trans hkc.below
  have HBW:=Lib.hid hbw
  have HK:=Lib.hid hkc
  have HJY:=Lib.hid hj
  have hszw:=hbw.size
  have hcx:wr.cell? ⟨Bs,0,none⟩ = some (.slice a ops.length cap):=Boxed.cell (t:=71) (hkc.box _ HBX.out rfl)
  cases k with
  | zero =>
   obtain rfl:=hv
   have e1:((0:Nat):Int) - 1 = -1:=rfl
   have HYS:=Lib.hid (show ys.map (·.o) = ops.reverse by simpa using hys)
   clear hbw hkc hj hys
   try rw [e1]
   gi_wp2
   go_end0
   exact ⟨⟨_,rfl⟩,.inl ⟨ys,HYS.out,HJY.out⟩⟩
  | succ j =>
   have e1:((j + 1:Nat):Int) - 1 = (j:Int):=by omega
   rw [e1] at hv
   obtain rfl:=hv
   clear e1
   have hjl:j < ops.length:=by omega
   obtain ⟨b,off,rfl,hb0,c0,c1,c2⟩:=(HA.out.below hbw (Nat.le_refl _)) j hjl
   have hmem:ops.getD j (0,0,0) ∈ ops:=by rw [plain.getD_lt _ hjl];exact List.getElem_mem hjl
   rw [take_rev hjl] at hys
   obtain ⟨o,ho⟩:∃ o,ops.getD j (0,0,0) = o:=⟨_,rfl⟩
   rw [ho] at c0 c1 c2 hys hmem
   clear ho
   obtain ⟨ok,on,od⟩:=o
   simp only at c0 c1 c2
   have hlys:=congrArg List.length hys
   simp only [List.length_append,List.length_map,List.length_cons,List.length_reverse] at hlys
   obtain ⟨X,hX1,hX2⟩:∃ X:BX ops,X.vs = #[.int .i64 (j:Int),.agg #[.int .i64 ok,.int .i64 on,.int .i64 od]] ∧ X.o = (ok,on,od):=⟨⟨j,ok,on,od,hmem⟩,rfl,rfl⟩
   obtain ⟨fn,tmps,assign,body,hy,hR⟩:=HY.out (n - 1) ys X wr hj (by omega)
   rw [hX1] at hy
   have HR:=Lib.hid hR
   have HX2:=Lib.hid hX2
   have HYS:=Lib.hid hys
   clear hbw hkc hj hys hR hX1 hX2 hlys hmem
   gi_wp2
   refine HR.out.mono ?_
   rintro e W1 (⟨rfl,hJ1,hk1⟩ | ⟨rfl,hJx⟩)
   ·have HJ1:=Lib.hid hJ1
    have HK1:=Lib.hid (HK.out.trans hk1)
    clear hJ1 hk1
    gi_wp2
    go_roundw
    case rel => exact ⟨j,ys ++ [X],by go_num,by omega,by rw [List.map_append,← HYS.out];simp [HX2.out],HJ1.out,HK1.out⟩
    case measure => first | (simp [intOf];done) | (simp [intOf];omega)
   ·gi_wp2
    refine bodyPost_ret (results_none rfl _ _ _) rfl ?_
    refine ⟨⟨_,rfl⟩,.inr ⟨ys ++ [X],?_,hJx⟩⟩
    refine ⟨(ops.take j).reverse,?_⟩
    rw [List.map_append,← HYS.out];simp [HX2.out]
theorem backward_stops {W0:World} (F:Fence) (hd:F.depth = none) (hG:F.fn 148) (hro:F.round = none) (n Bs:Nat) (ops:List Op3) (a:Option Addr) (cap:Nat)
  (hlen:ops.length ≤ 9223372036854775807) (hA:OpA W0 a ops) (w:World) (hB:Below W0.heap.size W0 w) (hbx:Boxed w Bs 71 (.slice a ops.length cap)) :
  SeqStopsK F n Tryz.prog 148 #[.pointer (some ⟨Bs,0,none⟩)] (fun x:BX ops => x.vs) (KB W0.heap.size Bs) (fun xs => xs.map (·.o) = ops.reverse) (fun pre => pre.map (·.o) <+: ops.reverse) ops.length w:=fun l J Jx W hW hJ hJx hY h0 =>
 backward1_in F hd hG hro n l W.heap.size Bs ops a cap hlen hA J Jx hJ (fun m pre x W hj hl => YieldAt.deep hd m (hY pre x W hj hl)) W (hB.trans (hW.mono hB.size)) ((hW.block Bs hbx.lt).trans hbx) h0
theorem backward_any {w:World} (a:Option Addr) (n c:Nat):Calls Tryz.prog 107 #[.slice a n c] w fun e w' => e = .returned (.func (.func 148) #[] #[.pointer (some ⟨w.heap.size,0,none⟩)]) ∧ w' = w.alloc (.cells #[.slice a n c] 71):=by
 go_enter Tryz.func107,Tryz.ntmps107
 go_wp2
 go_ret
 exact ⟨rfl,rfl⟩
end Go.Proofs.YtpjficjlfibibaaGreatDoor.index
