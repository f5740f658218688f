/- Parts of the proof. -/
import Derived.Test.YtdgifkjaflfdeaaGreatDoorJ02
set_option linter.all false
set_option maxRecDepth 100000
set_option maxHeartbeats 16000000
namespace Go.Proofs.YtdgifkjaflfdeaaGreatDoor.index
open Tryz
open Go.RowKit Go.Shelf clock syn
open lite
def JX(o:Op3):Bool:=decide (3<=o.1/\o.1<=8/\(o.1<5->1<=o.2.1/\o.2.1<=100)/\(o.1=5->0<=o.2.1/\o.2.1<=100/\1<=o.2.2/\o.2.2<=100))
theorem qo{P:Op3->Bool}{l:List Op3}{k:Nat}(f:k<l.length)(h:(l.take k).all P=true)(g:P (l.getD k (0,0,0))=true):(l.take (k+1)).all P=true:=by
 rw[List.take_succ_eq_append_getElem f,List.all_append,h,<-plain.getD_lt (0,0,0) f];simp only[List.all_cons,List.all_nil,g,Bool.and_true]
theorem ZeC{w:World}{b:Nat}{f g j:Value}{t:TypeId}(h:w.1[b]?=some (.cells #[f,g,j] t (0,0))) :
  (w.cell? ⟨b,0,none⟩=some f/\w.cell? ⟨b,1,none⟩=some g/\w.cell? ⟨b,2,none⟩=some j)/\b<w.1.size/\(w.frozen? ⟨b,0,none⟩=false/\w.frozen? ⟨b,1,none⟩=false/\w.frozen? ⟨b,2,none⟩=false):=by
 refine⟨⟨?_,?_,?_⟩,(Yr.1 h).1,?_,?_,?_⟩<;>first|(simp[World.cell?,h];done)|simp[World.frozen?,h]
def vY(a:GK):Value:=.agg #[.int .i64 a.1,.int .i64 a.2.1,.int .i64 a.2.2]
theorem VE{o:Op3}(h:JX o=true):Xo o=false:=by
 unfold JX at h;have h:=of_decide_eq_true h;unfold Xo;split
 .exact Yt oz
 exact Yt oz
def Zg7(w:World)(l:List Op3)(n0:Int)(v1 v5:Value)(wr:World):Prop:=∃(k:Nat)(m:Int),k<=l.length/\v5=.int .i64 ((k:Int)-1)/\v1=.int .i64 m/\0<=m/\m<=1099511627776/\Below w.1.size w wr /\
 wr.1[w.1.size]?=some (.cells #[.int .i64 0,.int .i64 0,.int .i64 0] 185 (0,0))/\Y4 (l.take k).reverse m=Y4 l.reverse n0
theorem bZ380{p:Prop}(h:p:=by repeat (first|(with_reducible exact Below.refl _ _)|((with_reducible refine YI ?_ ?_ _);(rotate_left;focus (first|omega|(simp;done)|(simp;omega))))|((with_reducible refine Below.alloc ?_ ?_ _);(rotate_left;focus (first|omega|(simp;done)|(simp;omega))))|(with_reducible refine below_drewN ?_ _)|(with_reducible refine Below.drew ?_))):p:=h
theorem vt(l:List Op3)(a:Option Addr)(cap:Nat)(n:Int)(w:World)(hl:l.length<=9223372036854775807)(X:OpA w a l)(h0:0<=n)(h1:n<=1099511627776)(Z:l.all JX=true) :
  Calls prog 95 #[.slice a l.length cap,.int .i64 n] w fun e w'=>e=.returned (vY (kU (Y4 l.reverse n)))/\Below w.1.size w w':=by
 have HA:=Lib.hid X;have HR:=Lib.hid Z;have V:IntKind.i64.wrap ((l.length:Int)-1)=(l.length:Int)-1:=IntWalk.i64_in _ oz;clear X Z;go_enter func95,ntmps95;go_wp2;go_loopw [1,5] (fun v1 v5 wr=>Hid (Zg7 w l n v1 v5 wr)) (fun _ i _=>(intOf i+1).toNat)
 case atStart=>exact⟨l.length,n,Yp _,by first|rfl|(rw[V])|(go_num;rw[V]),rfl,h0,h1,bZ380,Yx w _,by rw[List.take_length]⟩
 obtain⟨k,m,hk,U,rfl,F,R,I,x,q⟩:=hrel.out;clear hrel V;obtain⟨⟨z0,z1,z2⟩,H,y0,y1,y2⟩:=ZeC x;have HB:=Lib.hid I;have y:=Lib.hid x;have f:=Lib.hid q;have ac:=I.size
 cases k with
 | zero =>
  obtain rfl:=U;have L:((0:Nat):Int)-1=-1:=rfl;have E:Hid (Y4 l.reverse n=.ok m):=by rw[<-q];rfl
  clear q x I
  try rw[L]
  go_wp2;exact bodyPost_ret (v:=vY (m,0,1)) (by simp only[results,results95];go_simp;rfl) rfl ⟨by rw[E.out];rfl,HB.out.trans bZ380⟩
 | succ j =>
  have L:((j+1:Nat):Int)-1=(j:Int):=oz;rw[L] at U;obtain rfl:=U;clear L;have D:j<l.length:=oz;obtain⟨b,off,rfl,hb,c0,c1,c2⟩:=(HA.out.below I (Yp _)) j D;have A:JX (l.getD j (0,0,0))=true:=by have:=HR.out;rw[List.all_eq_true] at this;rw[plain.getD_lt _ D];exact this _ (List.getElem_mem D)
  rw[vM D] at q;obtain⟨o,Y⟩:∃o,l.getD j (0,0,0)=o:=⟨_,rfl⟩;rw[Y] at c0 c1 c2 q A;clear Y f;obtain⟨ok,on,C⟩:=o;simp only at c0 c1 c2;have J:=VE A;unfold JX at A;have A:=of_decide_eq_true A;simp only at A;have f:=Lib.hid q;have HWW:=Lib.hid J;clear q x I J;have O:ok=3\/ok=4\/ok=5\/ok=6\/ok=7\/ok=8:=oz;rcases O with rfl|rfl|rfl|rfl|rfl|rfl
  .have M:1<=on:=oz;have T:=UH F M;have aa:=T.1;have ab:=T.2;clear T;have q1:IntKind.i64.wrap (m.tdiv on)=m/on:=by rw[Int.tdiv_eq_ediv_of_nonneg F,IntWalk.i64_in _ oz]
   have q2:(on == 0)=false:=Ys.2 oz;have q3:¬on=0:=oz;have G:decide (1099511627776<m/on)=false:=Yt oz;have g:Hid (YU (3,on,C) m=.ok (m/on)):=by show _=_;simp[YU,Xp,Y2]
   go_wp2;go_roundw
   case rel=>exact⟨j,_,oz,by go_num,rfl,oz,oz,HB.out.trans bZ380,(Below.heap_alloc _ _ _ H).trans y.out,J5 g.out f.out⟩
   first|(simp[intOf];done)|(simp[intOf];omega)
  .have M:1<=on/\on<=100:=oz;have p1:=Int.mul_nonneg F (show 0<=on by omega);have p2:m*on<=1099511627776*100:=Int.mul_le_mul R M.2 oz oz;have q1:IntKind.i64.wrap (m*on)=m*on:=IntWalk.i64_in _ oz;by_cases z:m*on<=1099511627776
   .have G:decide (1099511627776<m*on)=false:=Yt oz;have g:Hid (YU (4,on,C) m=.ok (m*on)):=by show _=_;simp[YU,Xp,Y2,z]
    go_wp2;go_roundw
    case rel=>exact⟨j,_,oz,by go_num,rfl,oz,oz,HB.out.trans bZ380,(Below.heap_alloc _ _ _ H).trans y.out,J5 g.out f.out⟩
    first|(simp[intOf];done)|(simp[intOf];omega)
   have G:decide (1099511627776<m*on)=true:=Yu oz;have g:Hid (YU (4,on,C) m=.error (0,0,0)):=by show _=_;simp[YU,Xp,Y2,z]
   go_wp2;exact bodyPost_ret (v:=vY (0,0,0)) (by simp only[results,results95];go_simp;rfl) rfl ⟨by rw[Jr g.out f.out];rfl,HB.out.trans bZ380⟩
  .have G:decide (1099511627776<m)=false:=Yt oz;have g:Hid (YU (5,on,C) m=.ok m):=by show _=_;simp[YU,Xp,Y2]
   go_wp2;go_roundw
   case rel=>exact⟨j,_,oz,by go_num,rfl,oz,oz,HB.out.trans bZ380,(Below.heap_alloc _ _ _ H).trans y.out,J5 g.out f.out⟩
   first|(simp[intOf];done)|(simp[intOf];omega)
  .by_cases z:m=0
   .subst z;have g:Hid (YU (6,on,C) 0=.error (0,on,2)):=by show _=_;simp[YU,Xp,Y2]
    go_wp2;exact bodyPost_ret (v:=vY (0,on,2)) (by simp only[results,results95];go_simp;rfl) rfl ⟨by rw[Jr g.out f.out];rfl,HB.out.trans bZ380⟩
   have G:decide (1099511627776<m-1)=false:=Yt oz;have q5:(m == 0)=false:=Ys.2 z;have g:Hid (YU (6,on,C) m=.ok (m-1)):=by show _=_;simp[YU,Xp,Y2,z]
   go_wp2;go_roundw
   case rel=>exact⟨j,_,oz,by go_num,rfl,oz,oz,HB.out.trans bZ380,(Below.heap_alloc _ _ _ H).trans y.out,J5 g.out f.out⟩
   first|(simp[intOf];done)|(simp[intOf];omega)
  .by_cases z:m<1099511627776
   .have G:decide (1099511627776<m+1)=false:=Yt oz;have g:Hid (YU (7,on,C) m=.ok (m+1)):=by show _=_;simp[YU,Xp,Y2,z]
    go_wp2;go_roundw
    case rel=>exact⟨j,_,oz,by go_num,rfl,oz,oz,HB.out.trans bZ380,(Below.heap_alloc _ _ _ H).trans y.out,J5 g.out f.out⟩
    first|(simp[intOf];done)|(simp[intOf];omega)
   have G:decide (1099511627776<m+1)=true:=Yu oz;have g:Hid (YU (7,on,C) m=.error (0,0,0)):=by show _=_;simp[YU,Xp,Y2,z]
   go_wp2;exact bodyPost_ret (v:=vY (0,0,0)) (by simp only[results,results95];go_simp;rfl) rfl ⟨by rw[Jr g.out f.out];rfl,HB.out.trans bZ380⟩
  by_cases z:m=0
  .subst z;have g:Hid (YU (8,on,C) 0=.error (0,on,2)):=by show _=_;simp[YU,Xp,Y2]
   go_wp2;exact bodyPost_ret (v:=vY (0,on,2)) (by simp only[results,results95];go_simp;rfl) rfl ⟨by rw[Jr g.out f.out];rfl,HB.out.trans bZ380⟩
  have G:decide (1099511627776<m-1)=false:=Yt oz;have q5:(m == 0)=false:=Ys.2 z;have g:Hid (YU (8,on,C) m=.ok (m-1)):=by show _=_;simp[YU,Xp,Y2,z]
  go_wp2;go_roundw
  case rel=>exact⟨j,_,oz,by go_num,rfl,oz,oz,HB.out.trans bZ380,(Below.heap_alloc _ _ _ H).trans y.out,J5 g.out f.out⟩
  first|(simp[intOf];done)|(simp[intOf];omega)
