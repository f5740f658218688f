/-
  Parts of the proof: Idx3.
-/
import Derived.BigRegionIn
import Derived.Test.YtgigilkpndhddaaGreatDoorQ02
namespace Go.Proofs.YtgigilkpndhddaaGreatDoor.index
set_option linter.unusedVariables false
set_option linter.unusedSimpArgs false
set_option linter.unnecessarySimpa false
set_option maxRecDepth 100000
set_option maxHeartbeats 16000000
open Go.RowKit Go.Shelf clock syn lite
attribute [local go_sem] Oper.semAt_some
abbrev jc:=Int × Int × Int
def Xq (o:Op3) (n:Int):Except jc Int :=
 if n=0∧XD o=true then .error (0,o.2.1,2) else match XF o n with
  | some t=>.ok t
  | none=>.error (0,0,0)
def Xp:List Op3→Int→Except jc Int
 | [],n=>.ok n
 | o::r,n=>match Xq o n with
  | .ok t=>Xp r t
  | .error e=>.error e
def kC:Except jc Int→jc
 | .ok m=>(m,0,1)
 | .error e=>e
def Qk (l:List Op3) (n:Int):jc :=
 if n<0∨1099511627776<n∨l.any Y5=true then (0,0,0) else kC (Xp l.reverse n)
theorem qk (o:Op3):∀(p:List Op3) (n:Int),Xp (p++[o]) n=match Xp p n with|.ok t=>Xq o t|.error e=>.error e:=by
 intro p
 induction p with
 | nil=>intro n;simp only[List.nil_append,Xp];cases Xq o n<;>rfl
 | cons x p ih =>
  intro n
  simp only[List.cons_append,Xp]
  cases Xq x n with
  | ok t=>exact ih t
  | error e=>rfl
theorem E0 {e:jc}:∀(p q:List Op3) (n:Int),Xp p n=.error e→Xp (p++q) n=.error e:=by
 intro p
 induction p with
 | nil=>intro q n h;simp[Xp] at h
 | cons x p ih =>
  intro q n h
  simp only[List.cons_append,Xp] at h ⊢
  cases hs:Xq x n with
  | ok t=>rw[hs] at h;exact ih q t h
  | error e'=>rw[hs] at h;exact h
theorem KN {o:Op3} {n t:Int} (hw:Y5 o=false) (h0:0≤n) (h1:n≤1099511627776) (hb:¬(n=0∧XD o=true)) (h:XF o n=some t):0≤t∧t≤1099511627776:=by
 obtain⟨k,N,d⟩:=o
 unfold XF at h
 simp only[Y5,XD] at hw hb h
 split at h
 ·rename_i h3
  rw[if_pos (Or.inl h3)] at hw
  have hN:1≤N:=by simp at hw;omega
  have:=UQ h0 hN
  injection h with h;omega
 split at h
 ·rename_i h4
  rw[if_pos (Or.inr h4)] at hw
  have hN:1≤N:=by simp at hw;omega
  have:=Int.mul_nonneg h0 (show 0≤N by omega)
  split at h
  ·injection h with h;omega
  cases h
 split at h
 ·rename_i h68
  injection h with h
  simp[h68] at hb
  omega
 split at h
 ·split at h
  ·injection h with h;omega
  cases h
 injection h with h;omega
def T3i (a:jc):Value:=.tuple #[.int .i64 a.1,.int .i64 a.2.1,.int .i64 a.2.2]
theorem ZaY {P:Op3→Bool} {l:List Op3} {o:Op3} (h:l.any P=false) (hm:o∈l):P o=false:=by
 cases hp:P o with
 | false=>rfl
 | true=>rw[List.any_eq_true.2 ⟨o,hm,hp⟩] at h;cases h
theorem Yt {W w1:World} {B:Nat} {t:TypeId} {v:Value} (hb:Below W.heap.size W w1) (h:Boxed W B t v):Boxed w1 B t v:=(hb.block _ h.lt).trans h
theorem Kt {w:World} {b:Nat} {v0 v1 v2:Value} {t:TypeId} (h:w.heap[b]?=some (.cells #[v0,v1,v2] t (0,0))) :
  (w.cell? ⟨b,0,none⟩=some v0∧w.cell? ⟨b,1,none⟩=some v1∧w.cell? ⟨b,2,none⟩=some v2)∧b<w.heap.size:=by
 refine⟨⟨?_,?_,?_⟩,(Array.getElem?_eq_some_iff.1 h).1⟩<;>simp[World.cell?,h]
theorem Ku {w W:World} {ta tb tc:TypeId} {v1 v2 v3:Value} (y1:Boxed W (w.heap.size+1) ta v1) (y2:Boxed W (w.heap.size+1+1) tb v2) (y3:Boxed W (w.heap.size+1+1+1) tc v3) (hb:Below w.heap.size w W) (u1 u2 u3:Value) :
  ((Boxed (((W.setCell ⟨w.heap.size+1,0,none⟩ u1).setCell ⟨w.heap.size+1+1,0,none⟩ u2).setCell ⟨w.heap.size+1+1+1,0,none⟩ u3) (w.heap.size+1) ta u1 ∧
   Boxed (((W.setCell ⟨w.heap.size+1,0,none⟩ u1).setCell ⟨w.heap.size+1+1,0,none⟩ u2).setCell ⟨w.heap.size+1+1+1,0,none⟩ u3) (w.heap.size+1+1) tb u2) ∧
   Boxed (((W.setCell ⟨w.heap.size+1,0,none⟩ u1).setCell ⟨w.heap.size+1+1,0,none⟩ u2).setCell ⟨w.heap.size+1+1+1,0,none⟩ u3) (w.heap.size+1+1+1) tc u3) ∧
  Below w.heap.size w (((W.setCell ⟨w.heap.size+1,0,none⟩ u1).setCell ⟨w.heap.size+1+1,0,none⟩ u2).setCell ⟨w.heap.size+1+1+1,0,none⟩ u3) ∧
  KeepsOthers W (((W.setCell ⟨w.heap.size+1,0,none⟩ u1).setCell ⟨w.heap.size+1+1,0,none⟩ u2).setCell ⟨w.heap.size+1+1+1,0,none⟩ u3) :=
 ⟨⟨⟨((y1.set u1).other (by omega) u2).other (by omega) u3,(((y2.other (by omega) u1).set u2).other (by omega) u3)⟩,(((y3.other (by omega) u1).other (by omega) u2).set u3)⟩,
  ((hb.setCell (p:=⟨w.heap.size+1,0,none⟩) (by simp) _).setCell (p:=⟨w.heap.size+1+1,0,none⟩) (by simp;omega) _).setCell (p:=⟨w.heap.size+1+1+1,0,none⟩) (by simp;omega) _,
  ((KeepsOthers.setCell _ _ _).trans (KeepsOthers.setCell _ _ _)).trans (KeepsOthers.setCell _ _ _)⟩
theorem VB {W w2:World} (hb2:Below W.heap.size W w2) (B:Nat):KeepsFrom B W w2:=⟨hb2.size,fun k o _ hk _=>(hb2.block k (lt_of_block hk)).trans hk⟩
def BI (w:World) (l:List Op3) (n0:Int) (pre:List (BX l)) (W:World):Prop :=
 ∃m:Int,(((Boxed W w.heap.size 2 (.int .i64 m)∧Boxed W (w.heap.size+1) 2 (.int .i64 0))∧Boxed W (w.heap.size+1+1) 2 (.int .i64 0))∧Boxed W (w.heap.size+1+1+1) 3 (.int .i64 0))∧Below w.heap.size w W∧(0≤m∧m≤1099511627776∧Xp (pre.map (·.o)) n0=.ok m)
def BIx (w:World) (l:List Op3) (n0:Int) (c:Code) (pre:List (BX l)) (W:World):Prop :=
 ∃x y z:Int,((Boxed W (w.heap.size+1) 2 (.int .i64 x)∧Boxed W (w.heap.size+1+1) 2 (.int .i64 y))∧Boxed W (w.heap.size+1+1+1) 3 (.int .i64 z))∧Below w.heap.size w W∧(c=.ret∧Xp (pre.map (·.o)) n0=.error (x,y,z))
theorem Zb7 {w W0:World} (h:w.heap.size≤W0.heap.size) (l:List Op3) (n0:Int):OwnFrom W0.heap.size (BI w l n0):=by
 intro pre X Y row hs hg hrw
 obtain⟨m,⟨⟨⟨h0,h1⟩,h2⟩,h3⟩,h4,h5⟩:=hs
 exact⟨m,⟨⟨⟨boxed_own _ _ (fun(_:Unit)=>Value.int .i64 m) () X Y row h0 hg (fun r e=>(hrw r e).2),boxed_own _ _ (fun(_:Unit)=>Value.int .i64 0) () X Y row h1 hg (fun r e=>(hrw r e).2)⟩,
  boxed_own _ _ (fun(_:Unit)=>Value.int .i64 0) () X Y row h2 hg (fun r e=>(hrw r e).2)⟩,boxed_own _ _ (fun(_:Unit)=>Value.int .i64 0) () X Y row h3 hg (fun r e=>(hrw r e).2)⟩,
  ownFrom_below (β:=Unit) (Nat.le_refl _) h () X Y row h4 hg hrw,h5⟩
theorem ZaL {w W0:World} (h:w.heap.size≤W0.heap.size) (l:List Op3) (n0:Int) (c:Code):OwnFrom W0.heap.size (BIx w l n0 c):=by
 intro pre X Y row hs hg hrw
 obtain⟨x,y,z,⟨⟨h1,h2⟩,h3⟩,h4,h5⟩:=hs
 exact⟨x,y,z,⟨⟨boxed_own _ _ (fun(_:Unit)=>Value.int .i64 x) () X Y row h1 hg (fun r e=>(hrw r e).2),boxed_own _ _ (fun(_:Unit)=>Value.int .i64 y) () X Y row h2 hg (fun r e=>(hrw r e).2)⟩,
  boxed_own _ _ (fun(_:Unit)=>Value.int .i64 z) () X Y row h3 hg (fun r e=>(hrw r e).2)⟩,
  ownFrom_below (β:=Unit) (Nat.le_refl _) h () X Y row h4 hg hrw,h5⟩
theorem Zbi (l:List Op3) (a:Option Addr) (cap:Nat) (n:Int) (w:World) (hl:l.length≤9223372036854775807) (hA:OpA w a l) (h:n<0∨1099511627776<n∨l.any Y5=true) :
  Calls Tryz.prog 112 #[.slice a l.length cap,.int .i64 n] w fun e w'=>e=.returned (T3i (0,0,0))∧Below w.heap.size w w':=by
 by_cases h0:n<0
 ·clear h hA
  go_enter Tryz.func112,Tryz.ntmps112
  go_wp2
  exact bodyPost_ret (v:=T3i (0,0,0)) (by simp only[results,Tryz.results112];go_simp;rfl) rfl ⟨rfl,(by repeat (first|(with_reducible exact Below.refl _ _)|((with_reducible refine YK ?_ ?_ _);(rotate_left;focus (first|omega|(simp;done)|(simp;omega))))|((with_reducible refine Below.alloc ?_ ?_ _);(rotate_left;focus (first|omega|(simp;done)|(simp;omega))))|(with_reducible refine below_drewN ?_ _)|(with_reducible refine Below.drew ?_)))⟩
 have h0':decide (n<0)=false:=decide_eq_false h0
 by_cases h1:1099511627776<n
 ·clear h h0 hA
  go_enter Tryz.func112,Tryz.ntmps112
  go_wp2
  exact bodyPost_ret (v:=T3i (0,0,0)) (by simp only[results,Tryz.results112];go_simp;rfl) rfl ⟨rfl,(by repeat (first|(with_reducible exact Below.refl _ _)|((with_reducible refine YK ?_ ?_ _);(rotate_left;focus (first|omega|(simp;done)|(simp;omega))))|((with_reducible refine Below.alloc ?_ ?_ _);(rotate_left;focus (first|omega|(simp;done)|(simp;omega))))|(with_reducible refine below_drewN ?_ _)|(with_reducible refine Below.drew ?_)))⟩
 have h1':decide (1099511627776<n)=false:=decide_eq_false h1
 have hw:l.any Y5=true:=by rcases h with h|h|h<;>first|exact h|omega
 have HC:=Lib.hid (fun w hA=>Q5 l a cap w hl hA)
 rw[hw] at HC
 have HA:=Lib.hid hA
 clear h h0 h1 hA
 go_enter Tryz.func112,Tryz.ntmps112
 go_wp2_with (go_at_call 139;(with_reducible refine(HC.out _ (HA.out.below (B:=w.heap.size) (by repeat (first|(with_reducible exact Below.refl _ _)|((with_reducible refine YK ?_ ?_ _);(rotate_left;focus (first|omega|(simp;done)|(simp;omega))))|((with_reducible refine Below.alloc ?_ ?_ _);(rotate_left;focus (first|omega|(simp;done)|(simp;omega))))|(with_reducible refine below_drewN ?_ _)|(with_reducible refine Below.drew ?_))) (Nat.le_refl _))).mono ?_);rintro e w1 ⟨rfl,hb1⟩;obtain⟨hc_,hf_⟩:=Yu hb1;have kcw1_0:=fun o=>hc_ (w.heap.size) o (by first|omega|(simp;done)|(simp;omega));have kfw1_0:=fun o=>hf_ (w.heap.size) o (by first|omega|(simp;done)|(simp;omega));have lw1_0:w.heap.size<w1.heap.size:=Nat.lt_of_lt_of_le (by first|omega|(simp;done)|(simp;omega)) hb1.size;have mw1_0:=Nat.lt_succ_of_lt lw1_0;have qw1_0:=Nat.lt_succ_of_lt mw1_0;have mw1_0:w.heap.size<w1.heap.size+1:=mw1_0;have qw1_0:w.heap.size<w1.heap.size+1+1:=qw1_0;have kcw1_1:=fun o=>hc_ (w.heap.size+1) o (by first|omega|(simp;done)|(simp;omega));have kfw1_1:=fun o=>hf_ (w.heap.size+1) o (by first|omega|(simp;done)|(simp;omega));have lw1_1:w.heap.size+1<w1.heap.size:=Nat.lt_of_lt_of_le (by first|omega|(simp;done)|(simp;omega)) hb1.size;have mw1_1:=Nat.lt_succ_of_lt lw1_1;have qw1_1:=Nat.lt_succ_of_lt mw1_1;have mw1_1:w.heap.size+1<w1.heap.size+1:=mw1_1;have qw1_1:w.heap.size+1<w1.heap.size+1+1:=qw1_1;have kcw1_2:=fun o=>hc_ (w.heap.size+1+1) o (by first|omega|(simp;done)|(simp;omega));have kfw1_2:=fun o=>hf_ (w.heap.size+1+1) o (by first|omega|(simp;done)|(simp;omega));have lw1_2:w.heap.size+1+1<w1.heap.size:=Nat.lt_of_lt_of_le (by first|omega|(simp;done)|(simp;omega)) hb1.size;have mw1_2:=Nat.lt_succ_of_lt lw1_2;have qw1_2:=Nat.lt_succ_of_lt mw1_2;have mw1_2:w.heap.size+1+1<w1.heap.size+1:=mw1_2;have qw1_2:w.heap.size+1+1<w1.heap.size+1+1:=qw1_2;have kcw1_3:=fun o=>hc_ (w.heap.size+1+1+1) o (by first|omega|(simp;done)|(simp;omega));have kfw1_3:=fun o=>hf_ (w.heap.size+1+1+1) o (by first|omega|(simp;done)|(simp;omega));have lw1_3:w.heap.size+1+1+1<w1.heap.size:=Nat.lt_of_lt_of_le (by first|omega|(simp;done)|(simp;omega)) hb1.size;have mw1_3:=Nat.lt_succ_of_lt lw1_3;have qw1_3:=Nat.lt_succ_of_lt mw1_3;have mw1_3:w.heap.size+1+1+1<w1.heap.size+1:=mw1_3;have qw1_3:w.heap.size+1+1+1<w1.heap.size+1+1:=qw1_3;clear hc_ hf_)
 exact bodyPost_ret (v:=T3i (0,0,0)) (by simp only[results,Tryz.results112];go_simp;rfl) rfl ⟨rfl,(by repeat (first|(with_reducible exact Below.refl _ _)|((with_reducible refine YK ?_ ?_ _);(rotate_left;focus (first|omega|(simp;done)|(simp;omega))))|((with_reducible refine Below.alloc ?_ ?_ _);(rotate_left;focus (first|omega|(simp;done)|(simp;omega))))|(with_reducible refine below_drewN ?_ _)|(with_reducible refine Below.drew ?_)|((with_reducible refine Below.trans ?_ (Below.mono hb1 ?_));(rotate_left;focus (first|omega|(simp;done)|(simp;omega))))))⟩
theorem ey (l:List Op3) (a:Option Addr) (cap:Nat) (n:Int) (w:World) (hl:l.length≤9223372036854775807) (hA:OpA w a l) (h0:0≤n) (h1:n≤1099511627776) (hw:l.any Y5=false) :
  Calls Tryz.prog 112 #[.slice a l.length cap,.int .i64 n] w fun e w'=>e=.returned (T3i (Qk l n))∧Below w.heap.size w w':=by
 have hP:Qk l n=kC (Xp l.reverse n):=by unfold Qk;rw[if_neg (by rw[hw];simp;omega)]
 have HPB:=Lib.hid hP
 have HC:=Lib.hid (fun w hA=>Q5 l a cap w hl hA)
 rw[hw] at HC
 have HA:=Lib.hid hA
 have HW:=Lib.hid hw
 clear hA hw hP
 have d0:decide (n<0)=false:=decide_eq_false (by omega)
 have d1:decide (1099511627776<n)=false:=decide_eq_false (by omega)
 refine(callsIn_wide (n:=6)).1 ?_
 refine callsIn_of_wp_marks Tryz.func112 rfl trivial ?_ rfl
 simp only[Tryz.ntmps112,List.size_toArray,List.length_cons,List.length_nil,Nat.reduceAdd,Nat.reduceSub,Array.replicate_succ,Array.replicate_zero,List.push_toArray,List.append_toArray,List.nil_append,List.cons_append]
 gi_wp2_with (first|(refine⟨trivial,?_⟩;gi_at_call 139;(refine(callsIn_wide.2 (HC.out _ (HA.out.below (B:=w.heap.size) (by repeat (first|(with_reducible exact Below.refl _ _)|((with_reducible refine YK ?_ ?_ _);(rotate_left;focus (first|omega|(simp;done)|(simp;omega))))|((with_reducible refine Below.alloc ?_ ?_ _);(rotate_left;focus (first|omega|(simp;done)|(simp;omega))))|(with_reducible refine below_drewN ?_ _)|(with_reducible refine Below.drew ?_))) (Nat.le_refl _)))).mono ?_);rintro e w1 ⟨rfl,hb1⟩;have HB1:=Lib.hid hb1;clear hb1)|(refine⟨trivial,?_⟩;gi_at_call 141;refine(callsIn_wide.2 (E7 _ _ _)).mono ?_;rintro e w' ⟨rfl,rfl⟩))
 have bN:=(((((Boxed.new w 2 (.int .i64 n)).alloc (.cells #[.int .i64 0] 2)).alloc (.cells #[.int .i64 0] 2)).alloc (.cells #[.int .i64 0] 3)))
 have b1:=((Boxed.new (w.alloc (.cells #[.int .i64 n] 2)) 2 (.int .i64 0)).alloc (.cells #[.int .i64 0] 2)).alloc (.cells #[.int .i64 0] 3)
 have b2:=(Boxed.new ((w.alloc (.cells #[.int .i64 n] 2)).alloc (.cells #[.int .i64 0] 2)) 2 (.int .i64 0)).alloc (.cells #[.int .i64 0] 3)
 have b3:=Boxed.new (((w.alloc (.cells #[.int .i64 n] 2)).alloc (.cells #[.int .i64 0] 2)).alloc (.cells #[.int .i64 0] 2)) 3 (.int .i64 0)
 simp only[World.size_alloc] at b1 b2 b3
 have hb1:=HB1.out
 have s1:=hb1.size
 simp only[World.size_alloc] at s1
 have bN1:=(Yt hb1 bN).alloc (.cells #[.slice a l.length cap] 67)
 have b11:=(Yt hb1 b1).alloc (.cells #[.slice a l.length cap] 67)
 have b21:=(Yt hb1 b2).alloc (.cells #[.slice a l.length cap] 67)
 have b31:=(Yt hb1 b3).alloc (.cells #[.slice a l.length cap] 67)
 have bS:=Boxed.new w1 67 (.slice a l.length cap)
 have hB0:Below w.heap.size w (w1.alloc (.cells #[.slice a l.length cap] 67)):=(by repeat (first|(with_reducible exact Below.refl _ _)|((with_reducible refine YK ?_ ?_ _);(rotate_left;focus (first|omega|(simp;done)|(simp;omega))))|((with_reducible refine Below.alloc ?_ ?_ _);(rotate_left;focus (first|omega|(simp;done)|(simp;omega))))|(with_reducible refine below_drewN ?_ _)|(with_reducible refine Below.drew ?_)|((with_reducible refine Below.trans ?_ (Below.mono hb1 ?_));(rotate_left;focus (first|omega|(simp;done)|(simp;omega))))))
 have hsz:(w1.alloc (.cells #[.slice a l.length cap] 67)).heap.size=w1.heap.size+1:=by simp
 obtain⟨Bs,hBs⟩:∃Bs,w1.heap.size=Bs:=⟨_,rfl⟩
 obtain⟨W0,hW0⟩:∃W0,w1.alloc (.cells #[.slice a l.length cap] 67)=W0:=⟨_,rfl⟩
 rw[hW0] at bN1 b11 b21 b31 bS hB0 hsz ⊢
 rw[hBs] at s1 hsz bS ⊢
 clear hW0 hBs HB1 hb1 bN b1 b2 b3
 have hszw:w.heap.size≤W0.heap.size:=by omega
 refine wpIn_rangeFunc_ownH (encs:=fun x:BX l=>#[.int .i64 x.i,.agg #[.int .i64 x.k,.int .i64 x.n,.int .i64 x.d]]) rfl (by omega) (gf:=165) (lb:=#[.pointer (some ⟨Bs,0,none⟩)]) rfl trivial (enters_of Tryz.func165 (by kernel_rfl) rfl)
  (K5 (W0:=w) Fence.wide rfl trivial rfl _ Bs l a cap hl HA.out W0 hB0 bS) (fun h k=>h.trans k) (fun W p o o' hl h hc _=>KB.putObj W p o o' (by omega) h hc) (Below.refl _ _) (fun _=>rfl)
  (BI w l n) (BIx w l n) (Zb7 hszw l n) (ZaL hszw l n) ⟨n,⟨⟨⟨bN1,b11⟩,b21⟩,b31⟩,hB0,h0,h1,rfl⟩
  (fun x a' W=>∃Bx,w.heap.size+1+1+1<Bx∧W.heap[Bx]?=some (.cells #[.int .i64 x.k,.int .i64 x.n,.int .i64 x.d] 156 (0,0)) ∧
   a'={ tmps:=#[.slice a l.length cap,.int .i64 n,undef,.pointer (some ⟨w.heap.size,0,none⟩),.pointer (some ⟨w.heap.size+1,0,none⟩),.pointer (some ⟨w.heap.size+1+1,0,none⟩),.pointer (some ⟨w.heap.size+1+1+1,0,none⟩),undef,.pointer (some ⟨Bx,0,none⟩),undef,undef,
    .int .i64 n,.bool false,.bool false,.int .i64 n,.bool false,.bool false,.bool false,.slice a l.length cap,.bool false,.bool false,.slice a l.length cap,
    .func (.func 165) #[] #[.pointer (some ⟨Bs,0,none⟩)],.int .i64 x.i,.agg #[.int .i64 x.k,.int .i64 x.n,.int .i64 x.d],undef,undef,undef,undef,undef,undef,undef,undef,undef,undef,undef,undef,undef,undef,undef,undef,undef,undef],defers:=[] })
  (fun x a' _ X Y row hs hg hrw=>by
   obtain⟨Bx,h1,h2,h3⟩:=hs
   refine⟨Bx,h1,(hg.block Bx (Array.getElem?_eq_some_iff.1 h2).1 (fun e=>?_)).trans h2,h3⟩
   obtain⟨_,o,ho,hc⟩:=hrw Bx e.symm
   rw[h2] at ho;cases ho;cases hc)
  ?assign ?body ?done ?stop
 case assign =>
  rintro p pre x W K ⟨m,⟨⟨⟨c0,c1⟩,c2⟩,c3⟩,hB1,hm⟩ hK
  gi_wp2
  exact hK _ _ ((KeepsOthers.alloc _ _).from _) ((KB.refl _ _ W).alloc hB1.size _) ⟨m,⟨⟨⟨c0.alloc _,c1.alloc _⟩,c2.alloc _⟩,c3.alloc _⟩,hB1.alloc hB1.size _,hm⟩ ⟨W.heap.size,c3.lt,lite.Yp W _,rfl⟩
 case body =>
  rintro p pre ⟨i,k,N,d,hmem⟩ a' W hl' ⟨r,hr⟩ ⟨m,⟨⟨⟨c0,c1⟩,c2⟩,c3⟩,hB1,hm0,hm1,hma⟩ ⟨Bx,hBx,hxb,rfl⟩ hlt
  simp only at hxb
  obtain⟨⟨x0,x1,x2⟩,xl⟩:=Kt hxb
  have hww:=ZaY HW.out hmem
  have o0:=c0.cell
  have o0f:=c0.frozen
  have o1:=c1.cell
  have o1f:=c1.frozen
  have o2:=c2.cell
  have o2f:=c2.frozen
  have o3:=c3.cell
  have o3f:=c3.frozen
  have hsW:=hB1.size
  have hsnoc:Xp ((pre++[(⟨i,k,N,d,hmem⟩:BX l)]).map (·.o)) n=Xq (k,N,d) m:=by rw[List.map_append,List.map_cons,List.map_nil,qk,hma];rfl
  have HSN:=Lib.hid hsnoc
  have HMA:=Lib.hid hma
  clear hsnoc hma
  by_cases hmz:m=0
  ·subst hmz
   have HBG:=Lib.hid (fun w=>jz k N d w)
   cases hbg:XD (k,N,d) with
   | true =>
    rw[hbg] at HBG
    have hE:Hid (Xq (k,N,d) 0=.error (0,N,2)):=by unfold Xq;exact if_pos ⟨rfl,hbg⟩
    gi_wp2_with (refine⟨trivial,?_⟩;gi_at_call 142;refine(CallsIn.inRound p (callsIn_wide.2 (HBG.out _))).mono ?_;rintro e w2 ⟨rfl,hb2⟩;have y0:=Yt hb2 c0;have y1:=Yt hb2 c1;have y2:=Yt hb2 c2;have y3:=Yt hb2 c3;have q0:=y0.cell;have q1:=y1.cell;have q2:=y2.cell;have q3:=y3.cell;have g0:=y0.frozen;have g1:=y1.frozen;have g2:=y2.frozen;have g3:=y3.frozen;have hxb2:=(hb2.block _ xl).trans hxb;obtain⟨⟨u0,u1,u2⟩,ul⟩:=Kt hxb2)
    gi_region
    all_goals
     have S3:=Ku y1 y2 y3 (hB1.trans (hb2.mono hsW)) (.int .i64 0) (.int .i64 N) (.int .i64 2)
     gi_wp2
     exact⟨((VB hb2 _).trans (S3.2.2.from _)).trans ((KeepsOthers.drew _).from _),0,N,2,S3.1,S3.2.1.drew,rfl,HSN.out.trans hE.out⟩
   | false =>
    rw[hbg] at HBG
    have hbn:¬((0:Int)=0∧XD (k,N,d)=true):=fun h=>by rw[hbg] at h;exact Bool.noConfusion h.2
    have HBF:=Lib.hid (fun w=>KX k N d 0 w hww hm0 hm1 hbn)
    cases hst:XF (k,N,d) 0 with
    | some t =>
     rw[hst] at HBF
     have hE:Hid (Xq (k,N,d) 0=.ok t):=by unfold Xq;rw[if_neg hbn,hst];exact rfl
     have htb:=KN hww hm0 hm1 hbn hst
     gi_wp2_with (first|(refine⟨trivial,?_⟩;gi_at_call 142;refine(CallsIn.inRound p (callsIn_wide.2 (HBG.out _))).mono ?_;rintro e w2 ⟨rfl,hb2⟩;have y0:=Yt hb2 c0;have y1:=Yt hb2 c1;have y2:=Yt hb2 c2;have y3:=Yt hb2 c3;have q0:=y0.cell;have q1:=y1.cell;have q2:=y2.cell;have q3:=y3.cell;have g0:=y0.frozen;have g1:=y1.frozen;have g2:=y2.frozen;have g3:=y3.frozen;have hxb2:=(hb2.block _ xl).trans hxb;obtain⟨⟨u0,u1,u2⟩,ul⟩:=Kt hxb2)|(refine⟨trivial,?_⟩;gi_at_call 143;refine(CallsIn.inRound p (callsIn_wide.2 (HBF.out _))).mono ?_;rintro e w3 ⟨he,hb3⟩;obtain rfl:e=.returned (.tuple #[.int .i64 t,.bool true]):=he;have z0:=Yt hb3 y0;have z1:=Yt hb3 y1;have z2:=Yt hb3 y2;have z3:=Yt hb3 y3;have r0:=z0.cell;have r1:=z1.cell;have r2:=z2.cell;have r3:=z3.cell;have t0:=z0.frozen;have t1:=z1.frozen;have t2:=z2.frozen;have t3:=z3.frozen))
     exact⟨((VB hb2 _).trans (VB hb3 _)).trans ((KeepsOthers.setCell _ _ _).from _),(((KB.refl _ _ _).of_below hb2 hsW).of_below hb3 (Nat.le_trans hsW hb2.size)).setCell (Nat.le_refl _) (by omega) _,t,⟨⟨⟨z0.set _,z1.other (by omega) _⟩,z2.other (by omega) _⟩,z3.other (by omega) _⟩,((hB1.trans (hb2.mono hsW)).trans (hb3.mono (Nat.le_trans hsW hb2.size))).setCell (p:=⟨w.heap.size,0,none⟩) (by simp) _,htb.1,htb.2,HSN.out.trans hE.out⟩
    | none =>
     rw[hst] at HBF
     have hE:Hid (Xq (k,N,d) 0=.error (0,0,0)):=by unfold Xq;rw[if_neg hbn,hst];exact rfl
     gi_wp2_with (first|(refine⟨trivial,?_⟩;gi_at_call 142;refine(CallsIn.inRound p (callsIn_wide.2 (HBG.out _))).mono ?_;rintro e w2 ⟨rfl,hb2⟩;have y0:=Yt hb2 c0;have y1:=Yt hb2 c1;have y2:=Yt hb2 c2;have y3:=Yt hb2 c3;have q0:=y0.cell;have q1:=y1.cell;have q2:=y2.cell;have q3:=y3.cell;have g0:=y0.frozen;have g1:=y1.frozen;have g2:=y2.frozen;have g3:=y3.frozen;have hxb2:=(hb2.block _ xl).trans hxb;obtain⟨⟨u0,u1,u2⟩,ul⟩:=Kt hxb2)|(refine⟨trivial,?_⟩;gi_at_call 143;refine(CallsIn.inRound p (callsIn_wide.2 (HBF.out _))).mono ?_;rintro e w3 ⟨he,hb3⟩;obtain⟨tt,rfl⟩:∃t,e=.returned (.tuple #[.int .i64 t,.bool false]):=he;have z0:=Yt hb3 y0;have z1:=Yt hb3 y1;have z2:=Yt hb3 y2;have z3:=Yt hb3 y3;have r0:=z0.cell;have r1:=z1.cell;have r2:=z2.cell;have r3:=z3.cell;have t0:=z0.frozen;have t1:=z1.frozen;have t2:=z2.frozen;have t3:=z3.frozen))
     have S3:=Ku z1 z2 z3 ((hB1.trans (hb2.mono hsW)).trans (hb3.mono (Nat.le_trans hsW hb2.size))) (.int .i64 0) (.int .i64 0) (.int .i64 0)
     exact⟨((VB hb2 _).trans (VB hb3 _)).trans (S3.2.2.from _),0,0,0,S3.1,S3.2.1,rfl,HSN.out.trans hE.out⟩
  have hmz':(m == 0)=false:=beq_eq_false_iff_ne.2 hmz
  have hbn:¬(m=0∧XD (k,N,d)=true):=fun h=>hmz h.1
  have HBF:=Lib.hid (fun w=>KX k N d m w hww hm0 hm1 hbn)
  cases hst:XF (k,N,d) m with
  | some t =>
   rw[hst] at HBF
   have hE:Hid (Xq (k,N,d) m=.ok t):=by unfold Xq;rw[if_neg hbn,hst];exact rfl
   have htb:=KN hww hm0 hm1 hbn hst
   gi_wp2
   refine⟨trivial,?_⟩
   gi_wp2_with (refine⟨trivial,?_⟩;gi_at_call 143;refine(CallsIn.inRound p (callsIn_wide.2 (HBF.out _))).mono ?_;rintro e w3 ⟨he,hb3⟩;obtain rfl:e=.returned (.tuple #[.int .i64 t,.bool true]):=he;have z0:=Yt hb3 c0;have z1:=Yt hb3 c1;have z2:=Yt hb3 c2;have z3:=Yt hb3 c3;have r0:=z0.cell;have r1:=z1.cell;have r2:=z2.cell;have r3:=z3.cell;have t0:=z0.frozen;have t1:=z1.frozen;have t2:=z2.frozen;have t3:=z3.frozen)
   exact⟨(VB hb3 _).trans ((KeepsOthers.setCell _ _ _).from _),((KB.refl _ _ _).of_below hb3 hsW).setCell (Nat.le_refl _) (by omega) _,t,⟨⟨⟨z0.set _,z1.other (by omega) _⟩,z2.other (by omega) _⟩,z3.other (by omega) _⟩,(hB1.trans (hb3.mono hsW)).setCell (p:=⟨w.heap.size,0,none⟩) (by simp) _,htb.1,htb.2,HSN.out.trans hE.out⟩
  | none =>
   rw[hst] at HBF
   have hE:Hid (Xq (k,N,d) m=.error (0,0,0)):=by unfold Xq;rw[if_neg hbn,hst];exact rfl
   gi_wp2
   refine⟨trivial,?_⟩
   gi_wp2_with (refine⟨trivial,?_⟩;gi_at_call 143;refine(CallsIn.inRound p (callsIn_wide.2 (HBF.out _))).mono ?_;rintro e w3 ⟨he,hb3⟩;obtain⟨tt,rfl⟩:∃t,e=.returned (.tuple #[.int .i64 t,.bool false]):=he;have z0:=Yt hb3 c0;have z1:=Yt hb3 c1;have z2:=Yt hb3 c2;have z3:=Yt hb3 c3;have r0:=z0.cell;have r1:=z1.cell;have r2:=z2.cell;have r3:=z3.cell;have t0:=z0.frozen;have t1:=z1.frozen;have t2:=z2.frozen;have t3:=z3.frozen)
   have S3:=Ku z1 z2 z3 (hB1.trans (hb3.mono hsW)) (.int .i64 0) (.int .i64 0) (.int .i64 0)
   exact⟨(VB hb3 _).trans (S3.2.2.from _),0,0,0,S3.1,S3.2.1,rfl,HSN.out.trans hE.out⟩
 case done =>
  rintro D zs W hD hzs ⟨m,⟨⟨⟨c0,c1⟩,c2⟩,c3⟩,hB1,hm0,hm1,hma⟩ hK
  have hans:Qk l n=(m,0,1):=by rw[HPB.out,←hzs,hma];rfl
  have o0:=c0.cell
  have o1:=c1.cell
  have o1f:=c1.frozen
  have o2:=c2.cell
  have o2f:=c2.frozen
  have o3:=c3.cell
  have o3f:=c3.frozen
  have HAN:=Lib.hid hans
  clear hans hma
  gi_wp2
  have S3:=Ku c1 c2 c3 hB1 (.int .i64 m) (.int .i64 0) (.int .i64 1)
  have hK2:=S3.2.2.same D _ hK rfl
  refine⟨by simp,.inl ⟨_,_,rfl,run_takeDeferred hK2,?_⟩⟩
  have e1:=(S3.1.1.1.kept (grownBy_putObj' _ D (.deferred none)) (by intro e;injection e with e;omega)).cell
  have e2:=(S3.1.1.2.kept (grownBy_putObj' _ D (.deferred none)) (by intro e;injection e with e;omega)).cell
  have e3:=(S3.1.2.kept (grownBy_putObj' _ D (.deferred none)) (by intro e;injection e with e;omega)).cell
  refine⟨T3i (m,0,1),?_,?_,?_⟩
  ·simp only[results,Tryz.results112];go_simp;rfl
  ·rw[HAN.out]
  exact S3.2.1.trans (KB.putObj (n₀:=w.heap.size) (Bs:=Bs) _ D _ _ (by omega) hK2 rfl).below
 rintro D c pre W hD hpre ⟨x,y,z,⟨⟨c1,c2⟩,c3⟩,hB1,rfl,hma⟩ hK
 have hans:Qk l n=(x,y,z):=by
  obtain⟨t,ht⟩:=hpre
  rw[HPB.out,←ht,E0 _ _ _ hma];rfl
 gi_wp2
 refine⟨by simp,.inl ⟨_,_,rfl,run_takeDeferred hK,?_⟩⟩
 have e1:=(c1.kept (grownBy_putObj' _ D (.deferred none)) (by intro e;injection e with e;omega)).cell
 have e2:=(c2.kept (grownBy_putObj' _ D (.deferred none)) (by intro e;injection e with e;omega)).cell
 have e3:=(c3.kept (grownBy_putObj' _ D (.deferred none)) (by intro e;injection e with e;omega)).cell
 refine⟨T3i (x,y,z),?_,?_,?_⟩
 ·simp only[results,Tryz.results112];go_simp;rfl
 ·rw[hans]
 exact hB1.trans (KB.putObj (n₀:=w.heap.size) (Bs:=Bs) _ D _ _ (by omega) hK rfl).below
theorem gT (l:List Op3) (a:Option Addr) (cap:Nat) (n:Int) (w:World) (hl:l.length≤9223372036854775807) (hA:OpA w a l) :
  Calls Tryz.prog 112 #[.slice a l.length cap,.int .i64 n] w fun e w'=>e=.returned (T3i (Qk l n))∧Below w.heap.size w w':=by
 by_cases h:n<0∨1099511627776<n∨l.any Y5=true
 ·rw[show Qk l n=(0,0,0) by unfold Qk;rw[if_pos h]];exact Zbi l a cap n w hl hA h
 exact ey l a cap n w hl hA (by omega) (by omega) (by cases hw:l.any Y5 with|false=>rfl|true=>exact absurd (Or.inr (Or.inr hw)) h)
end Go.Proofs.YtgigilkpndhddaaGreatDoor.index
