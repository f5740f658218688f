/- Parts of the proof. -/
import Derived.BigRegionIn
import Derived.Test.YtgigilkpndhddaaGreatDoorV00
set_option linter.all false
set_option maxRecDepth 100000
set_option maxHeartbeats 16000000
namespace Go.Proofs.YtgigilkpndhddaaGreatDoor.index
open Tryz
open Go.RowKit Go.Shelf clock syn lite
attribute [local go_sem] Oper.semAt_some
abbrev vb:=Int × Int × Int
def XT(o:Op3)(n:Int):Except vb Int :=
 if n=0∧XZ o=true then .error (0,o.2.1,2) else match Qd o n with
  | some t=>.ok t
  | none=>.error (0,0,0)
def XO:List Op3→Int→Except vb Int
 | [],n=>.ok n
 | o::r,n=>match XT o n with
  | .ok t=>XO r t
  | .error e=>.error e
def Zcm:Except vb Int→vb
 | .ok m=>(m,0,1)
 | .error e=>e
def QG(l:List Op3)(n:Int):vb :=
 if n<0∨1099511627776<n∨l.any Xw=true then (0,0,0) else Zcm (XO l.reverse n)
theorem vr(o:Op3):∀(p:List Op3)(n:Int),XO (p++[o]) n=match XO p n with|.ok t=>XT o t|.error e=>.error e:=by
 intro p
 induction p with
 | nil=>intro n;simp only[List.nil_append,XO];cases XT o n<;>rfl
 | cons x p ih =>
  intro n;simp only[List.cons_append,XO]
  cases XT x n with
  | ok t=>exact ih t
  | error e=>rfl
theorem yG{e:vb}:∀(p q:List Op3)(n:Int),XO p n=.error e→XO (p++q) n=.error e:=by
 intro p
 induction p with
 | nil=>intro q n h;simp[XO] at h
 | cons x p ih =>
  intro q n h;simp only[List.cons_append,XO] at h ⊢
  cases hs:XT x n with
  | ok t=>rw[hs] at h;exact ih q t h
  | error e'=>rw[hs] at h;exact h
theorem E2{o:Op3}{n t:Int}(f:Xw o=false)(g:0≤n)(m:n≤1099511627776)(hb:¬(n=0∧XZ o=true))(h:Qd o n=some t):0≤t∧t≤1099511627776:=by
 obtain⟨k,N,d⟩:=o;unfold Qd at h;simp only[Xw,XZ] at f hb h;split at h
 ·rename_i h3
  rw[Yv (Or.inl h3)] at f;have j:1≤N:=by simp at f;omega
  have:=KU g j;injection h with h;omega
 split at h
 ·rename_i h4
  rw[Yv (Or.inr h4)] at f;have j:1≤N:=by simp at f;omega
  have:=Int.mul_nonneg g (show 0≤N by omega);split at h
  ·injection h with h;omega
  cases h
 split at h
 ·rename_i h68
  injection h with h
  simp[h68] at hb;omega
 split at h
 ·split at h
  ·injection h with h;omega
  cases h
 injection h with h;omega
def T3i(a:vb):Value:=.tuple #[.int .i64 a.1,.int .i64 a.2.1,.int .i64 a.2.2]
theorem Zdi{P:Op3→Bool}{l:List Op3}{o:Op3}(h:l.any P=false)(f:o∈l):P o=false:=by
 cases hp:P o with
 | false=>rfl
 | true=>rw[List.any_eq_true.2 ⟨o,f,hp⟩] at h;cases h
theorem YA{W w1:World}{B:Nat}{t:TypeId}{v:Value}(hb:Below W.heap.size W w1)(h:Boxed W B t v):Boxed w1 B t v:=(hb.block _ h.lt).trans h
theorem Gx{w:World}{b:Nat}{f g j:Value}{t:TypeId}(h:w.heap[b]?=some (.cells #[f,g,j] t (0,0))) :
  (w.cell? ⟨b,0,none⟩=some f∧w.cell? ⟨b,1,none⟩=some g∧w.cell? ⟨b,2,none⟩=some j)∧b<w.heap.size:=by
 refine⟨⟨?_,?_,?_⟩,(Array.getElem?_eq_some_iff.1 h).1⟩<;>simp[World.cell?,h]
theorem GI{w W:World}{ta tb tc:TypeId}{v1 v2 v3:Value}(y1:Boxed W (w.heap.size+1) ta v1)(y2:Boxed W (w.heap.size+1+1) tb v2)(y3:Boxed W (w.heap.size+1+1+1) tc v3)(hb:Below w.heap.size w W)(u1 u2 u3:Value) :
  ((Boxed (((W.setCell ⟨w.heap.size+1,0,none⟩ u1).setCell ⟨w.heap.size+1+1,0,none⟩ u2).setCell ⟨w.heap.size+1+1+1,0,none⟩ u3) (w.heap.size+1) ta u1 ∧
   Boxed (((W.setCell ⟨w.heap.size+1,0,none⟩ u1).setCell ⟨w.heap.size+1+1,0,none⟩ u2).setCell ⟨w.heap.size+1+1+1,0,none⟩ u3) (w.heap.size+1+1) tb u2) ∧
   Boxed (((W.setCell ⟨w.heap.size+1,0,none⟩ u1).setCell ⟨w.heap.size+1+1,0,none⟩ u2).setCell ⟨w.heap.size+1+1+1,0,none⟩ u3) (w.heap.size+1+1+1) tc u3) ∧
  Below w.heap.size w (((W.setCell ⟨w.heap.size+1,0,none⟩ u1).setCell ⟨w.heap.size+1+1,0,none⟩ u2).setCell ⟨w.heap.size+1+1+1,0,none⟩ u3) ∧
  KeepsOthers W (((W.setCell ⟨w.heap.size+1,0,none⟩ u1).setCell ⟨w.heap.size+1+1,0,none⟩ u2).setCell ⟨w.heap.size+1+1+1,0,none⟩ u3) :=
 ⟨⟨⟨((y1.set u1).other oz u2).other oz u3,(((y2.other oz u1).set u2).other oz u3)⟩,(((y3.other oz u1).other oz u2).set u3)⟩,
  ((hb.setCell (p:=⟨w.heap.size+1,0,none⟩) (by simp) _).setCell (p:=⟨w.heap.size+1+1,0,none⟩) (by simp;omega) _).setCell (p:=⟨w.heap.size+1+1+1,0,none⟩) (by simp;omega) _,
  ((KeepsOthers.setCell _ _ _).trans (KeepsOthers.setCell _ _ _)).trans (KeepsOthers.setCell _ _ _)⟩
theorem Uv{W w2:World}(hb2:Below W.heap.size W w2)(B:Nat):KeepsFrom B W w2:=⟨hb2.size,fun k o _ hk _=>(hb2.block k (lt_of_block hk)).trans hk⟩
def BI(w:World)(l:List Op3)(n0:Int)(pre:List (BX l))(W:World):Prop :=
 ∃m:Int,(((Boxed W w.heap.size 2 (.int .i64 m)∧Boxed W (w.heap.size+1) 2 (.int .i64 0))∧Boxed W (w.heap.size+1+1) 2 (.int .i64 0))∧Boxed W (w.heap.size+1+1+1) 3 (.int .i64 0))∧Below w.heap.size w W∧(0≤m∧m≤1099511627776∧XO (pre.map (·.o)) n0=.ok m)
def BIx(w:World)(l:List Op3)(n0:Int)(c:Code)(pre:List (BX l))(W:World):Prop :=
 ∃x y z:Int,((Boxed W (w.heap.size+1) 2 (.int .i64 x)∧Boxed W (w.heap.size+1+1) 2 (.int .i64 y))∧Boxed W (w.heap.size+1+1+1) 3 (.int .i64 z))∧Below w.heap.size w W∧(c=.ret∧XO (pre.map (·.o)) n0=.error (x,y,z))
theorem ZeW{w W0:World}(h:w.heap.size≤W0.heap.size)(l:List Op3)(C:Int):OwnFrom W0.heap.size (BI w l C):=by
 intro pre X Y row A g f;obtain⟨m,⟨⟨⟨j,q⟩,v⟩,x⟩,y,z⟩:=A;exact⟨m,⟨⟨⟨boxed_own _ _ (fun(_:Unit)=>Value.int .i64 m) () X Y row j g (fun r e=>(f r e).2),boxed_own _ _ (fun(_:Unit)=>Value.int .i64 0) () X Y row q g (fun r e=>(f r e).2)⟩,
  boxed_own _ _ (fun(_:Unit)=>Value.int .i64 0) () X Y row v g (fun r e=>(f r e).2)⟩,boxed_own _ _ (fun(_:Unit)=>Value.int .i64 0) () X Y row x g (fun r e=>(f r e).2)⟩,
  ownFrom_below (β:=Unit) (Yq _) h () X Y row y g f,z⟩
theorem Zdq{w W0:World}(h:w.heap.size≤W0.heap.size)(l:List Op3)(D:Int)(c:Code):OwnFrom W0.heap.size (BIx w l D c):=by
 intro pre X Y row C g f;obtain⟨x,y,z,⟨⟨j,m⟩,q⟩,v,A⟩:=C;exact⟨x,y,z,⟨⟨boxed_own _ _ (fun(_:Unit)=>Value.int .i64 x) () X Y row j g (fun r e=>(f r e).2),boxed_own _ _ (fun(_:Unit)=>Value.int .i64 y) () X Y row m g (fun r e=>(f r e).2)⟩,
  boxed_own _ _ (fun(_:Unit)=>Value.int .i64 z) () X Y row q g (fun r e=>(f r e).2)⟩,
  ownFrom_below (β:=Unit) (Yq _) h () X Y row v g f,A⟩
theorem Zdp(l:List Op3)(a:Option Addr)(cap:Nat)(n:Int)(w:World)(hl:l.length≤9223372036854775807)(I:OpA w a l)(h:n<0∨1099511627776<n∨l.any Xw=true) :
  Calls prog 112 #[.slice a l.length cap,.int .i64 n] w fun e w'=>e=.returned (T3i (0,0,0))∧Below w.heap.size w w':=by
 by_cases X:n<0
 ·clear h I;go_enter func112,ntmps112;go_wp2;exact bodyPost_ret (v:=T3i (0,0,0)) (by simp only[results,results112];go_simp;rfl) rfl ⟨rfl,(by repeat (first|(with_reducible exact Below.refl _ _)|((with_reducible refine Y2 ?_ ?_ _);(rotate_left;focus (first|omega|(simp;done)|(simp;omega))))|((with_reducible refine Below.alloc ?_ ?_ _);(rotate_left;focus (first|omega|(simp;done)|(simp;omega))))|(with_reducible refine below_drewN ?_ _)|(with_reducible refine Below.drew ?_)))⟩
 have aa:decide (n<0)=false:=Yt X;by_cases Z:1099511627776<n
 ·clear h X I;go_enter func112,ntmps112;go_wp2;exact bodyPost_ret (v:=T3i (0,0,0)) (by simp only[results,results112];go_simp;rfl) rfl ⟨rfl,(by repeat (first|(with_reducible exact Below.refl _ _)|((with_reducible refine Y2 ?_ ?_ _);(rotate_left;focus (first|omega|(simp;done)|(simp;omega))))|((with_reducible refine Below.alloc ?_ ?_ _);(rotate_left;focus (first|omega|(simp;done)|(simp;omega))))|(with_reducible refine below_drewN ?_ _)|(with_reducible refine Below.drew ?_)))⟩
 have ab:decide (1099511627776<n)=false:=Yt Z;have hw:l.any Xw=true:=by rcases h with h|h|h<;>first|exact h|omega
 have Y:=Lib.hid (fun w I=>Jy l a cap w hl I);rw[hw] at Y;have HA:=Lib.hid I;clear h X Z I;go_enter func112,ntmps112;go_wp2_with (go_at_call 139;(with_reducible refine(Y.out _ (HA.out.below (B:=w.heap.size) (by repeat (first|(with_reducible exact Below.refl _ _)|((with_reducible refine Y2 ?_ ?_ _);(rotate_left;focus (first|omega|(simp;done)|(simp;omega))))|((with_reducible refine Below.alloc ?_ ?_ _);(rotate_left;focus (first|omega|(simp;done)|(simp;omega))))|(with_reducible refine below_drewN ?_ _)|(with_reducible refine Below.drew ?_))) (Yq _))).mono ?_);rintro e q ⟨rfl,hb1⟩;obtain⟨x,y⟩:=YC hb1;have J:=fun o=>x (w.heap.size) o oz;have R:=fun o=>y (w.heap.size) o oz;have E:w.heap.size<q.heap.size:=Yr oz hb1.size;have f:=Nat.lt_succ_of_lt E;have z:=Nat.lt_succ_of_lt f;have f:w.heap.size<q.heap.size+1:=f;have z:w.heap.size<q.heap.size+1+1:=z;have L:=fun o=>x (w.heap.size+1) o oz;have T:=fun o=>y (w.heap.size+1) o oz;have F:w.heap.size+1<q.heap.size:=Yr oz hb1.size;have g:=Nat.lt_succ_of_lt F;have A:=Nat.lt_succ_of_lt g;have g:w.heap.size+1<q.heap.size+1:=g;have A:w.heap.size+1<q.heap.size+1+1:=A;have M:=fun o=>x (w.heap.size+1+1) o oz;have U:=fun o=>y (w.heap.size+1+1) o oz;have G:w.heap.size+1+1<q.heap.size:=Yr oz hb1.size;have j:=Nat.lt_succ_of_lt G;have C:=Nat.lt_succ_of_lt j;have j:w.heap.size+1+1<q.heap.size+1:=j;have C:w.heap.size+1+1<q.heap.size+1+1:=C;have O:=fun o=>x (w.heap.size+1+1+1) o oz;have V:=fun o=>y (w.heap.size+1+1+1) o oz;have H:w.heap.size+1+1+1<q.heap.size:=Yr oz hb1.size;have m:=Nat.lt_succ_of_lt H;have D:=Nat.lt_succ_of_lt m;have m:w.heap.size+1+1+1<q.heap.size+1:=m;have D:w.heap.size+1+1+1<q.heap.size+1+1:=D;clear x y);exact bodyPost_ret (v:=T3i (0,0,0)) (by simp only[results,results112];go_simp;rfl) rfl ⟨rfl,(by repeat (first|(with_reducible exact Below.refl _ _)|((with_reducible refine Y2 ?_ ?_ _);(rotate_left;focus (first|omega|(simp;done)|(simp;omega))))|((with_reducible refine Below.alloc ?_ ?_ _);(rotate_left;focus (first|omega|(simp;done)|(simp;omega))))|(with_reducible refine below_drewN ?_ _)|(with_reducible refine Below.drew ?_)|((with_reducible refine Below.trans ?_ (Below.mono hb1 ?_));(rotate_left;focus (first|omega|(simp;done)|(simp;omega))))))⟩
theorem Zbd(l:List Op3)(a:Option Addr)(cap:Nat)(n:Int)(w:World)(hl:l.length≤9223372036854775807)(hA:OpA w a l)(h0:0≤n)(h1:n≤1099511627776)(hw:l.any Xw=false) :
  Calls prog 112 #[.slice a l.length cap,.int .i64 n] w fun e w'=>e=.returned (T3i (QG l n))∧Below w.heap.size w w':=by
 have hP:QG l n=Zcm (XO l.reverse n):=by unfold QG;rw[Yu (by rw[hw];simp;omega)]
 have ag:=Lib.hid hP;have HC:=Lib.hid (fun w hA=>Jy l a cap w hl hA);rw[hw] at HC;have HA:=Lib.hid hA;have HW:=Lib.hid hw;clear hA hw hP;have d0:decide (n<0)=false:=Yt oz;have d1:decide (1099511627776<n)=false:=Yt oz;refine(callsIn_wide (n:=6)).1 ?_;refine callsIn_of_wp_marks func112 rfl trivial ?_ rfl;simp only[ntmps112,List.size_toArray,List.length_cons,List.length_nil,Nat.reduceAdd,Nat.reduceSub,Array.replicate_succ,Array.replicate_zero,List.push_toArray,List.append_toArray,List.nil_append,List.cons_append];gi_wp2_with (first|(refine⟨trivial,?_⟩;gi_at_call 139;(refine(callsIn_wide.2 (HC.out _ (HA.out.below (B:=w.heap.size) (by repeat (first|(with_reducible exact Below.refl _ _)|((with_reducible refine Y2 ?_ ?_ _);(rotate_left;focus (first|omega|(simp;done)|(simp;omega))))|((with_reducible refine Below.alloc ?_ ?_ _);(rotate_left;focus (first|omega|(simp;done)|(simp;omega))))|(with_reducible refine below_drewN ?_ _)|(with_reducible refine Below.drew ?_))) (Yq _)))).mono ?_);rintro e w1 ⟨rfl,hb1⟩;have HB1:=Lib.hid hb1;clear hb1)|(refine⟨trivial,?_⟩;gi_at_call 141;refine(callsIn_wide.2 (yI _ _ _)).mono ?_;rintro e w' ⟨rfl,rfl⟩));have bN:=(((((Boxed.new w 2 (.int .i64 n)).alloc (.cells #[.int .i64 0] 2)).alloc (.cells #[.int .i64 0] 2)).alloc (.cells #[.int .i64 0] 3)));have b1:=((Boxed.new (w.alloc (.cells #[.int .i64 n] 2)) 2 (.int .i64 0)).alloc (.cells #[.int .i64 0] 2)).alloc (.cells #[.int .i64 0] 3);have b2:=(Boxed.new ((w.alloc (.cells #[.int .i64 n] 2)).alloc (.cells #[.int .i64 0] 2)) 2 (.int .i64 0)).alloc (.cells #[.int .i64 0] 3);have b3:=Boxed.new (((w.alloc (.cells #[.int .i64 n] 2)).alloc (.cells #[.int .i64 0] 2)).alloc (.cells #[.int .i64 0] 2)) 3 (.int .i64 0);simp only[World.size_alloc] at b1 b2 b3;have hb1:=HB1.out;have s1:=hb1.size;simp only[World.size_alloc] at s1;have ak:=(YA hb1 bN).alloc (.cells #[.slice a l.length cap] 67);have ah:=(YA hb1 b1).alloc (.cells #[.slice a l.length cap] 67);have ai:=(YA hb1 b2).alloc (.cells #[.slice a l.length cap] 67);have aj:=(YA hb1 b3).alloc (.cells #[.slice a l.length cap] 67);have bS:=Boxed.new w1 67 (.slice a l.length cap);have ae:Below w.heap.size w (w1.alloc (.cells #[.slice a l.length cap] 67)):=(by repeat (first|(with_reducible exact Below.refl _ _)|((with_reducible refine Y2 ?_ ?_ _);(rotate_left;focus (first|omega|(simp;done)|(simp;omega))))|((with_reducible refine Below.alloc ?_ ?_ _);(rotate_left;focus (first|omega|(simp;done)|(simp;omega))))|(with_reducible refine below_drewN ?_ _)|(with_reducible refine Below.drew ?_)|((with_reducible refine Below.trans ?_ (Below.mono hb1 ?_));(rotate_left;focus (first|omega|(simp;done)|(simp;omega))))));have ap:(w1.alloc (.cells #[.slice a l.length cap] 67)).heap.size=w1.heap.size+1:=by simp
 obtain⟨Bs,al⟩:∃Bs,w1.heap.size=Bs:=⟨_,rfl⟩;obtain⟨W0,an⟩:∃W0,w1.alloc (.cells #[.slice a l.length cap] 67)=W0:=⟨_,rfl⟩;rw[an] at ak ah ai aj bS ae ap ⊢;rw[al] at s1 ap bS ⊢;clear an al HB1 hb1 bN b1 b2 b3;have ac:w.heap.size≤W0.heap.size:=oz;refine wpIn_rangeFunc_ownH (encs:=fun x:BX l=>#[.int .i64 x.i,.agg #[.int .i64 x.k,.int .i64 x.n,.int .i64 x.d]]) rfl oz (gf:=165) (lb:=#[.pointer (some ⟨Bs,0,none⟩)]) rfl trivial (enters_of func165 kz rfl)
  (Ea (W0:=w) Fence.wide rfl trivial rfl _ Bs l a cap hl HA.out W0 ae bS) (fun h k=>h.trans k) (fun W p o o' hl h hc _=>KB.putObj W p o o' oz h hc) (Below.refl _ _) (fun _=>rfl)
  (BI w l n) (BIx w l n) (ZeW ac l n) (Zdq ac l n) ⟨n,⟨⟨⟨ak,ah⟩,ai⟩,aj⟩,ae,h0,h1,rfl⟩
  (fun x a' W=>∃Bx,w.heap.size+1+1+1<Bx∧W.heap[Bx]?=some (.cells #[.int .i64 x.k,.int .i64 x.n,.int .i64 x.d] 156 (0,0)) ∧
   a'={ tmps:=#[.slice a l.length cap,.int .i64 n,undef,.pointer (some ⟨w.heap.size,0,none⟩),.pointer (some ⟨w.heap.size+1,0,none⟩),.pointer (some ⟨w.heap.size+1+1,0,none⟩),.pointer (some ⟨w.heap.size+1+1+1,0,none⟩),undef,.pointer (some ⟨Bx,0,none⟩),undef,undef,
    .int .i64 n,.bool false,.bool false,.int .i64 n,.bool false,.bool false,.bool false,.slice a l.length cap,.bool false,.bool false,.slice a l.length cap,
    .func (.func 165) #[] #[.pointer (some ⟨Bs,0,none⟩)],.int .i64 x.i,.agg #[.int .i64 x.k,.int .i64 x.n,.int .i64 x.d],undef,undef,undef,undef,undef,undef,undef,undef,undef,undef,undef,undef,undef,undef,undef,undef,undef,undef],defers:=[] })
  (fun x a' _ X Y row hs hg hrw=>by
   obtain⟨Bx,h1,h2,h3⟩:=hs;refine⟨Bx,h1,(hg.block Bx (Array.getElem?_eq_some_iff.1 h2).1 (fun e=>?_)).trans h2,h3⟩;obtain⟨_,o,ho,hc⟩:=hrw Bx e.symm;rw[h2] at ho;cases ho;cases hc)
  ?assign ?body ?done ?stop
 case assign =>
  rintro p pre x W K ⟨m,⟨⟨⟨c0,c1⟩,c2⟩,c3⟩,f,hm⟩ hK;gi_wp2;exact hK _ _ ((KeepsOthers.alloc _ _).from _) ((KB.refl _ _ W).alloc f.size _) ⟨m,⟨⟨⟨c0.alloc _,c1.alloc _⟩,c2.alloc _⟩,c3.alloc _⟩,f.alloc f.size _,hm⟩ ⟨W.heap.size,c3.lt,lite.Yw W _,rfl⟩
 case body =>
  rintro p pre ⟨i,k,N,d,ab⟩ a' W ba ⟨r,hr⟩ ⟨m,⟨⟨⟨c0,c1⟩,c2⟩,c3⟩,f,J,L,q⟩ ⟨Bx,az,R,rfl⟩ bb;simp only at R;obtain⟨⟨x0,x1,x2⟩,xl⟩:=Gx R;have aa:=Zdi HW.out ab;have o0:=c0.cell;have bc:=c0.frozen;have o1:=c1.cell;have au:=c1.frozen;have o2:=c2.cell;have av:=c2.frozen;have o3:=c3.cell;have aw:=c3.frozen;have g:=f.size;have M:XO ((pre++[(⟨i,k,N,d,ab⟩:BX l)]).map (·.o)) n=XT (k,N,d) m:=by rw[List.map_append,List.map_cons,List.map_nil,vr,q];rfl
  have I:=Lib.hid M;have ay:=Lib.hid q;clear M q;by_cases af:m=0
  ·subst af;have H:=Lib.hid (fun w=>vt k N d w)
   cases hbg:XZ (k,N,d) with
   | true =>
    rw[hbg] at H;have hE:Hid (XT (k,N,d) 0=.error (0,N,2)):=by unfold XT;exact Yv ⟨rfl,hbg⟩
    gi_wp2_with (refine⟨trivial,?_⟩;gi_at_call 142;refine(CallsIn.inRound p (callsIn_wide.2 (H.out _))).mono ?_;rintro e w2 ⟨rfl,hb2⟩;have Z:=YA hb2 c0;have T:=YA hb2 c1;have U:=YA hb2 c2;have V:=YA hb2 c3;have q0:=Z.cell;have q1:=T.cell;have q2:=U.cell;have q3:=V.cell;have g0:=Z.frozen;have g1:=T.frozen;have g2:=U.frozen;have g3:=V.frozen;have v:=(hb2.block _ xl).trans R;obtain⟨⟨u0,u1,u2⟩,ul⟩:=Gx v);gi_region
    all_goals
     have S3:=GI T U V (f.trans (hb2.mono g)) (.int .i64 0) (.int .i64 N) (.int .i64 2);gi_wp2;exact⟨((Uv hb2 _).trans (S3.2.2.from _)).trans ((KeepsOthers.drew _).from _),0,N,2,S3.1,S3.2.1.drew,rfl,I.out.trans hE.out⟩
   | false =>
    rw[hbg] at H;have hbn:¬((0:Int)=0∧XZ (k,N,d)=true):=fun h=>by rw[hbg] at h;exact Bool.noConfusion h.2
    have j:=Lib.hid (fun w=>Ec k N d 0 w aa J L hbn)
    cases hst:Qd (k,N,d) 0 with
    | some t =>
     rw[hst] at j;have hE:Hid (XT (k,N,d) 0=.ok t):=by unfold XT;rw[Yu hbn,hst];exact rfl
     have O:=E2 aa J L hbn hst;gi_wp2_with (first|(refine⟨trivial,?_⟩;gi_at_call 142;refine(CallsIn.inRound p (callsIn_wide.2 (H.out _))).mono ?_;rintro e w2 ⟨rfl,hb2⟩;have Z:=YA hb2 c0;have T:=YA hb2 c1;have U:=YA hb2 c2;have V:=YA hb2 c3;have q0:=Z.cell;have q1:=T.cell;have q2:=U.cell;have q3:=V.cell;have g0:=Z.frozen;have g1:=T.frozen;have g2:=U.frozen;have g3:=V.frozen;have v:=(hb2.block _ xl).trans R;obtain⟨⟨u0,u1,u2⟩,ul⟩:=Gx v)|(refine⟨trivial,?_⟩;gi_at_call 143;refine(CallsIn.inRound p (callsIn_wide.2 (j.out _))).mono ?_;rintro e w3 ⟨he,hb3⟩;obtain rfl:e=.returned (.tuple #[.int .i64 t,.bool true]):=he;have G:=YA hb3 Z;have A:=YA hb3 T;have C:=YA hb3 U;have E:=YA hb3 V;have r0:=G.cell;have r1:=A.cell;have r2:=C.cell;have r3:=E.cell;have t0:=G.frozen;have t1:=A.frozen;have t2:=C.frozen;have t3:=E.frozen));exact⟨((Uv hb2 _).trans (Uv hb3 _)).trans ((KeepsOthers.setCell _ _ _).from _),(((KB.refl _ _ _).of_below hb2 g).of_below hb3 (Nat.le_trans g hb2.size)).setCell (Yq _) oz _,t,⟨⟨⟨G.set _,A.other oz _⟩,C.other oz _⟩,E.other oz _⟩,((f.trans (hb2.mono g)).trans (hb3.mono (Nat.le_trans g hb2.size))).setCell (p:=⟨w.heap.size,0,none⟩) (by simp) _,O.1,O.2,I.out.trans hE.out⟩
    | none =>
     rw[hst] at j;have hE:Hid (XT (k,N,d) 0=.error (0,0,0)):=by unfold XT;rw[Yu hbn,hst];exact rfl
     gi_wp2_with (first|(refine⟨trivial,?_⟩;gi_at_call 142;refine(CallsIn.inRound p (callsIn_wide.2 (H.out _))).mono ?_;rintro e w2 ⟨rfl,hb2⟩;have Z:=YA hb2 c0;have T:=YA hb2 c1;have U:=YA hb2 c2;have V:=YA hb2 c3;have q0:=Z.cell;have q1:=T.cell;have q2:=U.cell;have q3:=V.cell;have g0:=Z.frozen;have g1:=T.frozen;have g2:=U.frozen;have g3:=V.frozen;have v:=(hb2.block _ xl).trans R;obtain⟨⟨u0,u1,u2⟩,ul⟩:=Gx v)|(refine⟨trivial,?_⟩;gi_at_call 143;refine(CallsIn.inRound p (callsIn_wide.2 (j.out _))).mono ?_;rintro e w3 ⟨he,hb3⟩;obtain⟨tt,rfl⟩:∃t,e=.returned (.tuple #[.int .i64 t,.bool false]):=he;have G:=YA hb3 Z;have A:=YA hb3 T;have C:=YA hb3 U;have E:=YA hb3 V;have r0:=G.cell;have r1:=A.cell;have r2:=C.cell;have r3:=E.cell;have t0:=G.frozen;have t1:=A.frozen;have t2:=C.frozen;have t3:=E.frozen));have S3:=GI A C E ((f.trans (hb2.mono g)).trans (hb3.mono (Nat.le_trans g hb2.size))) (.int .i64 0) (.int .i64 0) (.int .i64 0);exact⟨((Uv hb2 _).trans (Uv hb3 _)).trans (S3.2.2.from _),0,0,0,S3.1,S3.2.1,rfl,I.out.trans hE.out⟩
  have ax:(m == 0)=false:=Ys.2 af;have hbn:¬(m=0∧XZ (k,N,d)=true):=fun h=>af h.1
  have j:=Lib.hid (fun w=>Ec k N d m w aa J L hbn)
  cases hst:Qd (k,N,d) m with
  | some t =>
   rw[hst] at j;have hE:Hid (XT (k,N,d) m=.ok t):=by unfold XT;rw[Yu hbn,hst];exact rfl
   have O:=E2 aa J L hbn hst;gi_wp2;refine⟨trivial,?_⟩;gi_wp2_with (refine⟨trivial,?_⟩;gi_at_call 143;refine(CallsIn.inRound p (callsIn_wide.2 (j.out _))).mono ?_;rintro e w3 ⟨he,hb3⟩;obtain rfl:e=.returned (.tuple #[.int .i64 t,.bool true]):=he;have G:=YA hb3 c0;have A:=YA hb3 c1;have C:=YA hb3 c2;have E:=YA hb3 c3;have r0:=G.cell;have r1:=A.cell;have r2:=C.cell;have r3:=E.cell;have t0:=G.frozen;have t1:=A.frozen;have t2:=C.frozen;have t3:=E.frozen);exact⟨(Uv hb3 _).trans ((KeepsOthers.setCell _ _ _).from _),((KB.refl _ _ _).of_below hb3 g).setCell (Yq _) oz _,t,⟨⟨⟨G.set _,A.other oz _⟩,C.other oz _⟩,E.other oz _⟩,(f.trans (hb3.mono g)).setCell (p:=⟨w.heap.size,0,none⟩) (by simp) _,O.1,O.2,I.out.trans hE.out⟩
  | none =>
   rw[hst] at j;have hE:Hid (XT (k,N,d) m=.error (0,0,0)):=by unfold XT;rw[Yu hbn,hst];exact rfl
   gi_wp2;refine⟨trivial,?_⟩;gi_wp2_with (refine⟨trivial,?_⟩;gi_at_call 143;refine(CallsIn.inRound p (callsIn_wide.2 (j.out _))).mono ?_;rintro e w3 ⟨he,hb3⟩;obtain⟨tt,rfl⟩:∃t,e=.returned (.tuple #[.int .i64 t,.bool false]):=he;have G:=YA hb3 c0;have A:=YA hb3 c1;have C:=YA hb3 c2;have E:=YA hb3 c3;have r0:=G.cell;have r1:=A.cell;have r2:=C.cell;have r3:=E.cell;have t0:=G.frozen;have t1:=A.frozen;have t2:=C.frozen;have t3:=E.frozen);have S3:=GI A C E (f.trans (hb3.mono g)) (.int .i64 0) (.int .i64 0) (.int .i64 0);exact⟨(Uv hb3 _).trans (S3.2.2.from _),0,0,0,S3.1,S3.2.1,rfl,I.out.trans hE.out⟩
 case done =>
  rintro D zs W hD ar ⟨m,⟨⟨⟨c0,c1⟩,c2⟩,c3⟩,f,J,L,q⟩ hK;have F:QG l n=(m,0,1):=by rw[ag.out,←ar,q];rfl
  have o0:=c0.cell;have o1:=c1.cell;have au:=c1.frozen;have o2:=c2.cell;have av:=c2.frozen;have o3:=c3.cell;have aw:=c3.frozen;have aq:=Lib.hid F;clear F q;gi_wp2;have S3:=GI c1 c2 c3 f (.int .i64 m) (.int .i64 0) (.int .i64 1);have am:=S3.2.2.same D _ hK rfl;refine⟨by simp,.inl ⟨_,_,rfl,run_takeDeferred am,?_⟩⟩;have e1:=(S3.1.1.1.kept (grownBy_putObj' _ D (.deferred none)) (by intro e;injection e with e;omega)).cell;have e2:=(S3.1.1.2.kept (grownBy_putObj' _ D (.deferred none)) (by intro e;injection e with e;omega)).cell;have e3:=(S3.1.2.kept (grownBy_putObj' _ D (.deferred none)) (by intro e;injection e with e;omega)).cell;refine⟨T3i (m,0,1),?_,?_,?_⟩
  ·simp only[results,results112];go_simp;rfl
  ·rw[aq.out]
  exact S3.2.1.trans (KB.putObj (n₀:=w.heap.size) (Bs:=Bs) _ D _ _ oz am rfl).below
 rintro D c pre W hD ao ⟨x,y,z,⟨⟨c1,c2⟩,c3⟩,f,rfl,q⟩ hK;have F:QG l n=(x,y,z):=by
  obtain⟨t,ht⟩:=ao;rw[ag.out,←ht,yG _ _ _ q];rfl
 gi_wp2;refine⟨by simp,.inl ⟨_,_,rfl,run_takeDeferred hK,?_⟩⟩;have e1:=(c1.kept (grownBy_putObj' _ D (.deferred none)) (by intro e;injection e with e;omega)).cell;have e2:=(c2.kept (grownBy_putObj' _ D (.deferred none)) (by intro e;injection e with e;omega)).cell;have e3:=(c3.kept (grownBy_putObj' _ D (.deferred none)) (by intro e;injection e with e;omega)).cell;refine⟨T3i (x,y,z),?_,?_,?_⟩
 ·simp only[results,results112];go_simp;rfl
 ·rw[F]
 exact f.trans (KB.putObj (n₀:=w.heap.size) (Bs:=Bs) _ D _ _ oz hK rfl).below
theorem Zbc(l:List Op3)(a:Option Addr)(cap:Nat)(n:Int)(w:World)(g:l.length≤9223372036854775807)(f:OpA w a l) :
  Calls prog 112 #[.slice a l.length cap,.int .i64 n] w fun e w'=>e=.returned (T3i (QG l n))∧Below w.heap.size w w':=by
 by_cases h:n<0∨1099511627776<n∨l.any Xw=true
 ·rw[show QG l n=(0,0,0) by unfold QG;rw[Yv h]];exact Zdp l a cap n w g f h
 exact Zbd l a cap n w g f oz oz (by cases hw:l.any Xw with|false=>rfl|true=>exact absurd (Or.inr (Or.inr hw)) h)
end Go.Proofs.YtgigilkpndhddaaGreatDoor.index
