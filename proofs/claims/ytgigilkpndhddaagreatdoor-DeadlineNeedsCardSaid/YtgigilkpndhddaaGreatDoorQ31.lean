/-
  Parts of the proof: Stb2, Stb3, Stb4.
-/
import Derived.Deep.Cut
import Derived.Deep.CutRange
import Derived.Deep.DeepCutAuto
import Derived.Test.YtgigilkpndhddaaGreatDoorQ30
namespace Go.Proofs.YtgigilkpndhddaaGreatDoor.syn
set_option linter.unusedVariables false
set_option linter.unusedSimpArgs false
set_option linter.unnecessarySimpa false
set_option maxRecDepth 100000
set_option maxHeartbeats 16000000
open Go.Shelf Go.RowKit Go.Lib Go.Sort Go.Proofs
section
variable {α:Type} [Inhabited α]
def shl (d:Array α) (a:Nat):Nat→Array α
 | 0=>d
 | n+1=>swp (shl d a n) (a+n) (a+n+1)
def shr (d:Array α) (m:Nat):Nat→Array α
 | 0=>d
 | n+1=>swp (shr d m n) (m-n) (m-n-1)
theorem JW (d:Array α) (a:Nat):∀n,(shl d a n).size=d.size
 | 0=>rfl
 | n+1=>by rw[shl,swp_size,JW d a n]
theorem J3 (d:Array α) (m:Nat):∀n,(shr d m n).size=d.size
 | 0=>rfl
 | n+1=>by rw[shr,swp_size,J3 d m n]
theorem yX {d:Array α} {a b:Nat} (hb:b≤d.size):∀n,a+n<b→PermIn a b d (shl d a n)
 | 0,_=>permIn_refl _ _ _
 | n+1,h=>permIn_trans _ _ _ _ _ (yX hb n oq) (swp_permIn _ _ _ _ _ oq oq oq oq (by rw[JW];exact hb))
theorem xh {d:Array α} {a m:Nat} (hb:m+1≤d.size):∀n,a+n≤m→PermIn a (m+1) d (shr d m n)
 | 0,_=>permIn_refl _ _ _
 | n+1,h=>permIn_trans _ _ _ _ _ (xh hb n oq) (swp_permIn _ _ _ _ _ oq oq oq oq (by rw[J3];exact hb))
theorem jJ (d:Array α) (a:Nat):∀n,a+n<d.size→∀q,(shl d a n)[q]! = if a≤q∧q<a+n then d[q+1]! else if q=a+n then d[a]! else d[q]!
 | 0,_,q=>by
  rw[Z1 oq]
  by_cases h:q=a+0
  ·rw[Z2 h,h];rfl
  rw[Z1 h];rfl
 | n+1,h,q=>by
  have ih:=jJ d a n oq
  rw[shl,swp_get _ (by rw[JW];omega) (by rw[JW];omega),ih (a+n),ih (a+n+1),ih q]
  rw[Z1 (show ¬(a≤a+n∧a+n<a+n) by omega),Z2 rfl,Z1 (show ¬(a≤a+n+1∧a+n+1<a+n) by omega),Z1 (show ¬a+n+1=a+n by omega)]
  by_cases h1:q=a+n+1
  ·rw[Z2 h1,Z1 oq,Z2 oq]
  rw[Z1 h1]
  by_cases h2:q=a+n
  ·rw[Z2 h2,Z2 oq];exact gx d oq
  rw[Z1 h2]
  by_cases h3:a≤q∧q<a+n
  ·rw[Z2 h3,Z2 oq]
  rw[Z1 h3,Z1 h2,Z1 (show ¬(a≤q∧q<a+(n+1)) by omega),Z1 oq]
theorem vu (d:Array α) (m:Nat):∀n,n≤m→m<d.size→∀q,(shr d m n)[q]! = if m-n<q∧q≤m then d[q-1]! else if q=m-n then d[m]! else d[q]!
 | 0,_,_,q=>by
  rw[Z1 oq]
  by_cases h:q=m-0
  ·rw[Z2 h];exact gx d oq
  rw[Z1 h];rfl
 | n+1,h,hm,q=>by
  have ih:=vu d m n oq hm
  rw[shr,swp_get _ (by rw[J3];omega) (by rw[J3];omega),ih (m-n),ih (m-n-1),ih q]
  rw[Z1 (show ¬(m-n<m-n∧m-n≤m) by omega),Z2 rfl,Z1 (show ¬(m-n<m-n-1∧m-n-1≤m) by omega),Z1 (show ¬m-n-1=m-n by omega)]
  by_cases h1:q=m-n-1
  ·rw[Z2 h1,Z1 oq,Z2 oq]
  rw[Z1 h1]
  by_cases h2:q=m-n
  ·rw[Z2 h2,Z2 oq];exact gx d oq
  rw[Z1 h2]
  by_cases h3:m-n<q∧q≤m
  ·rw[Z2 h3,Z2 oq]
  rw[Z1 h3,Z1 h2,Z1 oq,Z1 oq]
theorem ZaP {lt:α→α→Bool} {a b i:Nat} {d:Array α} (hb:b≤d.size) (h1:a+1≤i) (h2:i≤b) (ho:i=a+1∨lt d[i-1]! d[a]! = true) (hn:i=b∨lt d[i]! d[a]! = false) (q:Nat) (hq:a+q+1=i):Mrg lt a (a+1) b d (shl d a q):=by
 refine ki hb h1 h2 ho hn (yX hb q oq) fun x=>?_
 rw[jJ d a q oq]
 by_cases h3:a≤x∧x<a+q
 ·rw[Z2 h3,Z2 (show a≤x∧x+1<i by omega)]
 rw[Z1 h3,Z1 (show ¬(a≤x∧x+1<i) by omega)]
 by_cases h4:x=a+q
 ·rw[Z2 h4,Z2 (show x+1=i by omega)]
 rw[Z1 h4,Z1 (show ¬x+1=i by omega)]
theorem Zbp {lt:α→α→Bool} {a m i:Nat} {d:Array α} (hb:m+1≤d.size) (h1:a≤i) (h2:i≤m) (ho:i=a∨lt d[m]! d[i-1]! = false) (hn:i=m∨lt d[m]! d[i]! = true) (q:Nat) (hq:i+q=m):Mrg lt a m (m+1) d (shr d m q):=by
 refine qT hb h1 h2 ho hn (xh hb q oq) fun x=>?_
 rw[vu d m q oq oq]
 by_cases h3:m-q<x∧x≤m
 ·rw[Z2 h3,Z2 (show i<x∧x≤m by omega)]
 rw[Z1 h3,Z1 (show ¬(i<x∧x≤m) by omega)]
 by_cases h4:x=m-q
 ·rw[Z2 h4,Z2 (show x=i by omega)]
 rw[Z1 h4,Z1 (show ¬x=i by omega)]
end
section
variable {P:Program} {α:Type} [Inhabited α] {k:Nat}
set_option maxRecDepth 1000000 in
theorem Zbe (L:JL P k) (FF:JF P) (enc:α→List Value) (cf:α→α→Int) (g:Nat) (cb:Array Value) (blk off cap a m b:Nat) (d0 d:Array α) (w0 w:World)
  (eg:∀args w,(callFunc g args).run P w=.ok (.enter g args) w) (hcmp:CmpLays P g cb enc k cf blk off d0.size w0) (R:RowK enc k w0 blk off d0) (hs:d0.size=d.size) (S:SWK enc k w0 blk off d w) (hb:b≤d.size) (hsz:d.size<2305843009213693952) (hm:m=a+1) (hmb:m<b) :
  Calls P 138 #[.slice (some ⟨blk,off,none⟩) d.size cap,.int .i64 a,.int .i64 m,.int .i64 b,.func (.func g) #[] cb] w fun e w'=>e=.returned (.tuple #[])∧∃d',Mrg (ltOf cf) a m b d d'∧SWK enc k w0 blk off d' w':=by
 have mixed:=L.mixed;have t0:=L.t0;have a0:=L.a0;have z0:=L.z0;have v0:=L.v0;have t3:=L.t3;have a3:=L.a3;have z3:=L.z3;have v3:=L.v3;have t4:=L.t4;have a4:=L.a4;have z4:=L.z4;have v4:=L.v4;have t53:=L.t53;have a53:=L.a53;have z53:=L.z53;have v53:=L.v53;have t156:=L.t156;have a156:=L.a156;have z156:=L.z156;have v156:=L.v156;have t131:=L.t131;have a131:=L.a131;have z131:=L.z131;have v131:=L.v131;have aE:=L.aE;have zE:=L.zE
 have F:=FF.fM
 have HC:Aside _:=hcmp
 have S0:Aside (SWK enc k w0 blk off d w):=S
 clear S hcmp
 have hma:(m:Int)-(a:Int)=1:=oq
 have ham:a<m:=oq
 have HM:Hid (m=a+1):=hm
 clear hm L FF
 go_enter F,Tryz.ntmps138
 go_wp2
 go_loopg [10,11] (b-m) (fun kx s10 s11 wr=>∃(i j:Nat),s10=.int .i64 i∧s11=.int .i64 j∧m≤i∧i≤j∧j≤b∧j-i≤kx∧Aside (SWK enc k w0 blk off d wr)∧Hid (i=m∨ltOf cf d[i-1]! d[a]! = true)∧Hid (j=b∨ltOf cf d[j]! d[a]! = false))
 case atStart=>exact⟨m,b,rfl,rfl,Zc _,oq,Zc _,Zc _,S0,.inl rfl,.inl rfl⟩
 clear S0
 obtain⟨i,j,rfl,rfl,h1,h2,h3,h4,S1,HI,HJ⟩:=hrel
 by_cases hlt:i<j
 ·have hltz:(i:Int)<(j:Int):=oq
  cases hL:ltOf cf d[(i+j)/2]! d[a]! with
  | true =>
   have ea1:(((i:Int)+(j:Int))/2).toNat=(i+j)/2:=oq
   have pa1:(0:Int)≤((i:Int)+(j:Int))/2:=oq
   have ba1:((i:Int)+(j:Int))/2<(d.size:Int):=oq
   have ra1:IntKind.i64.wrap (((i:Int)+(j:Int))/2)=((i:Int)+(j:Int))/2:=by rw[Zs];omega
   have ec1:((a:Int)).toNat=a:=oq
   have pc1:(0:Int)≤(a:Int):=oq
   have bc1:(a:Int)<(d.size:Int):=oq
   have rc1:IntKind.i64.wrap ((a:Int))=(a:Int):=by rw[Zs];omega
   obtain⟨x1,hx1⟩:∃x,x=d[(i+j)/2]!:=⟨_,rfl⟩
   obtain⟨y1,hy1⟩:∃x,x=d[a]!:=⟨_,rfl⟩
   have l1a:=S1.out.ld R oq P ((i+j)/2) oq
   have l1b:=S1.out.ld R oq P (a) oq
   rw[←hx1] at l1a
   rw[←hy1] at l1b
   have hc1:=S1.out.cmp HC.out oq x1 y1
   have hv1:cf x1 y1<0:=by rw[hx1,hy1];exact Yi (hL)
   have hd1:decide (cf x1 y1<0)=true:=Z0 hv1
   clear hx1 hy1
   go_wp2_with fail
   go_quiet_grown (first|(go_at_fn g;refine Calls.grown_of (hc1 _ _)))
   have S2:Aside (SWK enc k w0 blk off d (grow (wr.drewN nq) osq)):=S1.out.grown nq osq
   clear l1a l1b hc1 S1
   generalize grow (wr.drewN nq) osq=w2 at S2 ⊢
   clear nq osq
   have HL:Hid (ltOf cf d[(i+j)/2]! d[a]! = true):=hL
   clear hL
   go_wp2_with fail
   go_roundg (j-((i+j)/2+1))
   case measure=>omega
   exact⟨(i+j)/2+1,j,by rw[show((i:Int)+(j:Int))/2+1=(((i+j)/2+1:Nat):Int) by omega],rfl,oq,oq,h3,Zc _,S2,.inr (by rw[Nat.add_sub_cancel];exact HL.out),HJ⟩
  | false =>
   have ea1:(((i:Int)+(j:Int))/2).toNat=(i+j)/2:=oq
   have pa1:(0:Int)≤((i:Int)+(j:Int))/2:=oq
   have ba1:((i:Int)+(j:Int))/2<(d.size:Int):=oq
   have ra1:IntKind.i64.wrap (((i:Int)+(j:Int))/2)=((i:Int)+(j:Int))/2:=by rw[Zs];omega
   have ec1:((a:Int)).toNat=a:=oq
   have pc1:(0:Int)≤(a:Int):=oq
   have bc1:(a:Int)<(d.size:Int):=oq
   have rc1:IntKind.i64.wrap ((a:Int))=(a:Int):=by rw[Zs];omega
   obtain⟨x1,hx1⟩:∃x,x=d[(i+j)/2]!:=⟨_,rfl⟩
   obtain⟨y1,hy1⟩:∃x,x=d[a]!:=⟨_,rfl⟩
   have l1a:=S1.out.ld R oq P ((i+j)/2) oq
   have l1b:=S1.out.ld R oq P (a) oq
   rw[←hx1] at l1a
   rw[←hy1] at l1b
   have hc1:=S1.out.cmp HC.out oq x1 y1
   have hv1:¬cf x1 y1<0:=by rw[hx1,hy1];exact of_decide_eq_false (hL)
   have hd1:decide (cf x1 y1<0)=false:=ZZ hv1
   clear hx1 hy1
   go_wp2_with fail
   go_quiet_grown (first|(go_at_fn g;refine Calls.grown_of (hc1 _ _)))
   have S2:Aside (SWK enc k w0 blk off d (grow (wr.drewN nq) osq)):=S1.out.grown nq osq
   clear l1a l1b hc1 S1
   generalize grow (wr.drewN nq) osq=w2 at S2 ⊢
   clear nq osq
   have HL:Hid (ltOf cf d[(i+j)/2]! d[a]! = false):=hL
   clear hL
   go_wp2_with fail
   go_roundg ((i+j)/2-i)
   case measure=>omega
   exact⟨i,(i+j)/2,rfl,by rw[show((i:Int)+(j:Int))/2=(((i+j)/2:Nat):Int) by omega],oq,oq,oq,Zc _,S2,HI,.inr HL.out⟩
 have hij:i=j:=oq
 subst hij
 have hltz:¬(i:Int)<(i:Int):=oq
 obtain⟨z,hz⟩:∃z,z=i-1:=⟨_,rfl⟩
 have wz:IntKind.i64.wrap ((i:Int)-1)=(z:Int):=by rw[Zs];omega
 have hza:a≤z∧z<b:=oq
 have HZ:Hid (z+1=i):=by show _=_;omega
 clear hz hlt hltz
 go_wp2
 go_loopg [13] (z-a) (fun kx s13 wr=>∃(u q:Nat),s13=.int .i64 u∧a≤u∧u≤z∧z-u≤kx∧Hid (u=a+q)∧Aside (SWK enc k w0 blk off (shl d a q) wr))
 case atStart=>exact⟨a,0,rfl,Zc _,hza.1,Zc _,rfl,S1⟩
 clear S1
 obtain⟨u,q,rfl,h5,h6,h7,HU,S2⟩:=hrel
 have hds:(shl d a q).size=d.size:=JW d a q
 by_cases hlt:u<z
 ·have hltz:(u:Int)<(z:Int):=oq
  have HE:Hid (swp (shl d a q) u (u+1)=shl d a (q+1)):=by show _=_;rw[HU.out];rfl
  have ea2:((u:Int)).toNat=u:=oq
  have pa2:(0:Int)≤(u:Int):=oq
  have ba2:(u:Int)<(d.size:Int):=oq
  have ra2:IntKind.i64.wrap ((u:Int))=(u:Int):=by rw[Zs];omega
  have ec2:((u:Int)+1).toNat=u+1:=oq
  have pc2:(0:Int)≤(u:Int)+1:=oq
  have bc2:(u:Int)+1<(d.size:Int):=oq
  have rc2:IntKind.i64.wrap ((u:Int)+1)=(u:Int)+1:=by rw[Zs];omega
  have S3:Aside (SWK enc k w0 blk off (swp (shl d a q) (u) (u+1)) ((wr.drew.setCells blk (off+(u)*k) (enc (shl d a q)[u+1]!)).setCells blk (off+(u+1)*k) (enc (shl d a q)[u]!))):=S2.out.swapped R (u) (u+1) oq oq
  have l2a:=S2.out.ld1 R oq P (u) oq
  have l2b:=S2.out.ld1 R oq P (u+1) oq
  have s2a:=S2.out.st1 R oq P (u) oq (shl d a q)[u+1]!
  have s2b:=S2.out.st2 R oq P (u) (u+1) oq oq (shl d a q)[u+1]! (shl d a q)[u]!
  have n2a:(enc (shl d a q)[u]!).length=k:=R.hk _
  have n2b:(enc (shl d a q)[u+1]!).length=k:=R.hk _
  generalize enc (shl d a q)[u]! = cI2 at S3 l2a s2b n2a
  generalize enc (shl d a q)[u+1]! = cJ2 at S3 l2b s2a s2b n2b
  clear S2
  go_wp2_with fail
  go_big_region_o
  clear l2a l2b s2a s2b
  generalize (wr.drew.setCells blk (off+(u)*k) cJ2).setCells blk (off+(u+1)*k) cI2=w2 at S3 ⊢
  have S4:Aside (SWK enc k w0 blk off (shl d a (q+1)) w2):=by rw[←HE.out];exact S3.out
  clear S3 HE hds
  go_wp2
  go_roundg (z-(u+1))
  case measure=>omega
  exact⟨u+1,q+1,by go_num,oq,oq,Zc _,(by show _=_;have:=HU.out;omega),S4⟩
 have hltz:¬(u:Int)<(z:Int):=oq
 have hq:a+q+1=i:=by have e1:=HU.out;have e2:=HZ.out;omega
 have hfin:Mrg (ltOf cf) a m b d (shl d a q):=by
  rw[HM.out]
  exact ZaP hb oq h3 (by rw[←HM.out];exact HI.out) HJ.out q hq
 have HF:Hid (Mrg (ltOf cf) a m b d (shl d a q)):=hfin
 clear hfin hq hds
 go_wp2
 (try simp only[Exit.inBlock,Exit.then])
 refine Zl (results_none rfl _ _ _) rfl ?_
 exact⟨rfl,_,HF.out,S2.out⟩
set_option maxRecDepth 1000000 in
theorem gS (L:JL P k) (FF:JF P) (enc:α→List Value) (cf:α→α→Int) (g:Nat) (cb:Array Value) (blk off cap a m b:Nat) (d0 d:Array α) (w0 w:World)
  (eg:∀args w,(callFunc g args).run P w=.ok (.enter g args) w) (hcmp:CmpLays P g cb enc k cf blk off d0.size w0) (R:RowK enc k w0 blk off d0) (hs:d0.size=d.size) (S:SWK enc k w0 blk off d w) (hb:b≤d.size) (hsz:d.size<2305843009213693952) (ham:a<m) (hma:¬m=a+1) (hm:b=m+1) :
  Calls P 138 #[.slice (some ⟨blk,off,none⟩) d.size cap,.int .i64 a,.int .i64 m,.int .i64 b,.func (.func g) #[] cb] w fun e w'=>e=.returned (.tuple #[])∧∃d',Mrg (ltOf cf) a m b d d'∧SWK enc k w0 blk off d' w':=by
 have mixed:=L.mixed;have t0:=L.t0;have a0:=L.a0;have z0:=L.z0;have v0:=L.v0;have t3:=L.t3;have a3:=L.a3;have z3:=L.z3;have v3:=L.v3;have t4:=L.t4;have a4:=L.a4;have z4:=L.z4;have v4:=L.v4;have t53:=L.t53;have a53:=L.a53;have z53:=L.z53;have v53:=L.v53;have t156:=L.t156;have a156:=L.a156;have z156:=L.z156;have v156:=L.v156;have t131:=L.t131;have a131:=L.a131;have z131:=L.z131;have v131:=L.v131;have aE:=L.aE;have zE:=L.zE
 have F:=FF.fM
 have HC:Aside _:=hcmp
 have S0:Aside (SWK enc k w0 blk off d w):=S
 clear S hcmp
 have hmz:¬(m:Int)-(a:Int)=1:=oq
 have hbz:(b:Int)-(m:Int)=1:=oq
 have hmq:((m:Int)-(a:Int) == 1)=false:=by rw[ZY];omega
 have hmb:m<b:=oq
 have HM:Hid (b=m+1):=hm
 clear hm hma L FF
 go_enter F,Tryz.ntmps138
 go_wp2
 go_loopg [14,15] (m-a) (fun kx s14 s15 wr=>∃(i j:Nat),s14=.int .i64 i∧s15=.int .i64 j∧a≤i∧i≤j∧j≤m∧j-i≤kx∧Aside (SWK enc k w0 blk off d wr)∧Hid (i=a∨ltOf cf d[m]! d[i-1]! = false)∧Hid (j=m∨ltOf cf d[m]! d[j]! = true))
 case atStart=>exact⟨a,m,rfl,rfl,Zc _,oq,Zc _,Zc _,S0,.inl rfl,.inl rfl⟩
 clear S0
 obtain⟨i,j,rfl,rfl,h1,h2,h3,h4,S1,HI,HJ⟩:=hrel
 by_cases hlt:i<j
 ·have hltz:(i:Int)<(j:Int):=oq
  cases hL:ltOf cf d[m]! d[(i+j)/2]! with
  | false =>
   have ea1:((m:Int)).toNat=m:=oq
   have pa1:(0:Int)≤(m:Int):=oq
   have ba1:(m:Int)<(d.size:Int):=oq
   have ra1:IntKind.i64.wrap ((m:Int))=(m:Int):=by rw[Zs];omega
   have ec1:(((i:Int)+(j:Int))/2).toNat=(i+j)/2:=oq
   have pc1:(0:Int)≤((i:Int)+(j:Int))/2:=oq
   have bc1:((i:Int)+(j:Int))/2<(d.size:Int):=oq
   have rc1:IntKind.i64.wrap (((i:Int)+(j:Int))/2)=((i:Int)+(j:Int))/2:=by rw[Zs];omega
   obtain⟨x1,hx1⟩:∃x,x=d[m]!:=⟨_,rfl⟩
   obtain⟨y1,hy1⟩:∃x,x=d[(i+j)/2]!:=⟨_,rfl⟩
   have l1a:=S1.out.ld R oq P (m) oq
   have l1b:=S1.out.ld R oq P ((i+j)/2) oq
   rw[←hx1] at l1a
   rw[←hy1] at l1b
   have hc1:=S1.out.cmp HC.out oq x1 y1
   have hv1:¬cf x1 y1<0:=by rw[hx1,hy1];exact of_decide_eq_false (hL)
   have hd1:decide (cf x1 y1<0)=false:=ZZ hv1
   clear hx1 hy1
   go_wp2_with fail
   go_quiet_grown (first|(go_at_fn g;refine Calls.grown_of (hc1 _ _)))
   have S2:Aside (SWK enc k w0 blk off d (grow (wr.drewN nq) osq)):=S1.out.grown nq osq
   clear l1a l1b hc1 S1
   generalize grow (wr.drewN nq) osq=w2 at S2 ⊢
   clear nq osq
   have HL:Hid (ltOf cf d[m]! d[(i+j)/2]! = false):=hL
   clear hL
   go_wp2_with fail
   go_roundg (j-((i+j)/2+1))
   case measure=>omega
   exact⟨(i+j)/2+1,j,by rw[show((i:Int)+(j:Int))/2+1=(((i+j)/2+1:Nat):Int) by omega],rfl,oq,oq,h3,Zc _,S2,.inr (by rw[Nat.add_sub_cancel];exact HL.out),HJ⟩
  | true =>
   have ea1:((m:Int)).toNat=m:=oq
   have pa1:(0:Int)≤(m:Int):=oq
   have ba1:(m:Int)<(d.size:Int):=oq
   have ra1:IntKind.i64.wrap ((m:Int))=(m:Int):=by rw[Zs];omega
   have ec1:(((i:Int)+(j:Int))/2).toNat=(i+j)/2:=oq
   have pc1:(0:Int)≤((i:Int)+(j:Int))/2:=oq
   have bc1:((i:Int)+(j:Int))/2<(d.size:Int):=oq
   have rc1:IntKind.i64.wrap (((i:Int)+(j:Int))/2)=((i:Int)+(j:Int))/2:=by rw[Zs];omega
   obtain⟨x1,hx1⟩:∃x,x=d[m]!:=⟨_,rfl⟩
   obtain⟨y1,hy1⟩:∃x,x=d[(i+j)/2]!:=⟨_,rfl⟩
   have l1a:=S1.out.ld R oq P (m) oq
   have l1b:=S1.out.ld R oq P ((i+j)/2) oq
   rw[←hx1] at l1a
   rw[←hy1] at l1b
   have hc1:=S1.out.cmp HC.out oq x1 y1
   have hv1:cf x1 y1<0:=by rw[hx1,hy1];exact Yi (hL)
   have hd1:decide (cf x1 y1<0)=true:=Z0 hv1
   clear hx1 hy1
   go_wp2_with fail
   go_quiet_grown (first|(go_at_fn g;refine Calls.grown_of (hc1 _ _)))
   have S2:Aside (SWK enc k w0 blk off d (grow (wr.drewN nq) osq)):=S1.out.grown nq osq
   clear l1a l1b hc1 S1
   generalize grow (wr.drewN nq) osq=w2 at S2 ⊢
   clear nq osq
   have HL:Hid (ltOf cf d[m]! d[(i+j)/2]! = true):=hL
   clear hL
   go_wp2_with fail
   go_roundg ((i+j)/2-i)
   case measure=>omega
   exact⟨i,(i+j)/2,rfl,by rw[show((i:Int)+(j:Int))/2=(((i+j)/2:Nat):Int) by omega],oq,oq,oq,Zc _,S2,HI,.inr HL.out⟩
 have hij:i=j:=oq
 subst hij
 have hltz:¬(i:Int)<(i:Int):=oq
 clear hlt hltz
 go_wp2
 go_loopg [17] (m-i) (fun kx s17 wr=>∃(u q:Nat),s17=.int .i64 u∧i≤u∧u≤m∧u-i≤kx∧Hid (u+q=m)∧Aside (SWK enc k w0 blk off (shr d m q) wr))
 case atStart=>exact⟨m,0,rfl,h3,Zc _,Zc _,rfl,S1⟩
 clear S1
 obtain⟨u,q,rfl,h5,h6,h7,HU,S2⟩:=hrel
 have hds:(shr d m q).size=d.size:=J3 d m q
 by_cases hlt:i<u
 ·have hltz:(i:Int)<(u:Int):=oq
  have HE:Hid (swp (shr d m q) u (u-1)=shr d m (q+1)):=by
   show _=_
   have e1:m-q=u:=by have:=HU.out;omega
   rw[shr,e1]
  have ea2:((u:Int)).toNat=u:=oq
  have pa2:(0:Int)≤(u:Int):=oq
  have ba2:(u:Int)<(d.size:Int):=oq
  have ra2:IntKind.i64.wrap ((u:Int))=(u:Int):=by rw[Zs];omega
  have ec2:((u:Int)-1).toNat=u-1:=oq
  have pc2:(0:Int)≤(u:Int)-1:=oq
  have bc2:(u:Int)-1<(d.size:Int):=oq
  have rc2:IntKind.i64.wrap ((u:Int)-1)=(u:Int)-1:=by rw[Zs];omega
  have S3:Aside (SWK enc k w0 blk off (swp (shr d m q) (u) (u-1)) ((wr.drew.setCells blk (off+(u)*k) (enc (shr d m q)[u-1]!)).setCells blk (off+(u-1)*k) (enc (shr d m q)[u]!))):=S2.out.swapped R (u) (u-1) oq oq
  have l2a:=S2.out.ld1 R oq P (u) oq
  have l2b:=S2.out.ld1 R oq P (u-1) oq
  have s2a:=S2.out.st1 R oq P (u) oq (shr d m q)[u-1]!
  have s2b:=S2.out.st2 R oq P (u) (u-1) oq oq (shr d m q)[u-1]! (shr d m q)[u]!
  have n2a:(enc (shr d m q)[u]!).length=k:=R.hk _
  have n2b:(enc (shr d m q)[u-1]!).length=k:=R.hk _
  generalize enc (shr d m q)[u]! = cI2 at S3 l2a s2b n2a
  generalize enc (shr d m q)[u-1]! = cJ2 at S3 l2b s2a s2b n2b
  clear S2
  go_wp2_with fail
  go_big_region_o
  clear l2a l2b s2a s2b
  generalize (wr.drew.setCells blk (off+(u)*k) cJ2).setCells blk (off+(u-1)*k) cI2=w2 at S3 ⊢
  have S4:Aside (SWK enc k w0 blk off (shr d m (q+1)) w2):=by rw[←HE.out];exact S3.out
  clear S3 HE hds
  go_wp2
  go_roundg (u-1-i)
  case measure=>omega
  exact⟨u-1,q+1,by rw[show(u:Int)-1=((u-1:Nat):Int) by omega],oq,oq,Zc _,(by show _=_;have:=HU.out;omega),S4⟩
 have hltz:¬(i:Int)<(u:Int):=oq
 have hq:i+q=m:=by have e1:=HU.out;omega
 have hfin:Mrg (ltOf cf) a m b d (shr d m q):=by
  rw[HM.out]
  exact Zbp (by have:=HM.out;omega) h1 h3 HI.out HJ.out q hq
 have HF:Hid (Mrg (ltOf cf) a m b d (shr d m q)):=hfin
 clear hfin hq hds
 go_wp2
 (try simp only[Exit.inBlock,Exit.then])
 refine Zl (results_none rfl _ _ _) rfl ?_
 exact⟨rfl,_,HF.out,S2.out⟩
end
section
variable {α:Type} [Inhabited α]
theorem GD (lt:α→α→Bool) {a m b:Nat} (d:Array α) (h:a=m∨m=b):Mrg lt a m b d d :=
 ⟨permIn_refl _ _ _,fun R ht hL hR hC=>by
  rcases h with h|h
  ·subst h;exact hR
  subst h;exact hL⟩
structure Hv (lt:α→α→Bool) (a m b mid st e:Nat) (d:Array α):Prop where
 ha:a≤st
 hm:st≤m
 he:m≤e
 hb:e≤b
 hd:mid=st+(e-m)
 ho:st=a∨e=b∨lt d[e]! d[st-1]! = false
 hn:st=m∨e=m∨lt d[e-1]! d[st]! = true
end
section
variable {P:Program} {α:Type} [Inhabited α] {k:Nat}
set_option maxRecDepth 1000000 in
theorem kG (L:JL P k) (FF:JF P) (enc:α→List Value) (cf:α→α→Int) (g:Nat) (cb:Array Value) (blk off cap a m b:Nat) (d0 d:Array α) (w0 w:World)
  (eg:∀args w,(callFunc g args).run P w=.ok (.enter g args) w) (hcmp:CmpLays P g cb enc k cf blk off d0.size w0) (R:RowK enc k w0 blk off d0) (hs:d0.size=d.size) (S:SWK enc k w0 blk off d w) (hb:b≤d.size) (hsz:d.size<2305843009213693952) (ham:a<m) (hma:¬m=a+1) (hmb:m<b) (hbm:¬b=m+1)
  (HIH:∀(a' m' b':Nat) (dk:Array α) (W:World),b'-a'<b-a→dk.size=d.size→SWK enc k w0 blk off dk W→a'<m'→m'<b'→b'≤d.size →
   Calls P 138 #[.slice (some ⟨blk,off,none⟩) d.size cap,.int .i64 a',.int .i64 m',.int .i64 b',.func (.func g) #[] cb] W fun e w'=>e=.returned (.tuple #[])∧∃d',Mrg (ltOf cf) a' m' b' dk d'∧SWK enc k w0 blk off d' w') :
  Calls P 138 #[.slice (some ⟨blk,off,none⟩) d.size cap,.int .i64 a,.int .i64 m,.int .i64 b,.func (.func g) #[] cb] w fun e w'=>e=.returned (.tuple #[])∧∃d',Mrg (ltOf cf) a m b d d'∧SWK enc k w0 blk off d' w':=by
 have mixed:=L.mixed;have t0:=L.t0;have a0:=L.a0;have z0:=L.z0;have v0:=L.v0;have t3:=L.t3;have a3:=L.a3;have z3:=L.z3;have v3:=L.v3;have t4:=L.t4;have a4:=L.a4;have z4:=L.z4;have v4:=L.v4;have t53:=L.t53;have a53:=L.a53;have z53:=L.z53;have v53:=L.v53;have t156:=L.t156;have a156:=L.a156;have z156:=L.z156;have v156:=L.v156;have t131:=L.t131;have a131:=L.a131;have z131:=L.z131;have v131:=L.v131;have aE:=L.aE;have zE:=L.zE
 have F:=FF.fM
 have HC:Aside _:=hcmp
 have S0:Aside (SWK enc k w0 blk off d w):=S
 clear S hcmp
 have hmz:¬(m:Int)-(a:Int)=1:=oq
 have hbz:¬(b:Int)-(m:Int)=1:=oq
 have hmq:((m:Int)-(a:Int) == 1)=false:=by rw[ZY];omega
 have hbq:((b:Int)-(m:Int) == 1)=false:=by rw[ZY];omega
 have HI:=hid HIH
 have HR:=hid (fun(x y z:Nat) (W:World) (h1:x<y) (h2:y<z) (h3:z≤d.size) (h4:SWK enc k w0 blk off d W)=>qK L FF enc (.func (.func g) #[] cb) blk off cap x y z d0 d w0 W R hs h4 h1 h2 h3 hsz)
 have eR:=FF.eR
 have eM:=FF.eM
 obtain⟨mid,hmid⟩:∃mid,mid=(a+b)/2:=⟨_,rfl⟩
 have wmid:((a:Int)+(b:Int))/2=(mid:Int):=oq
 obtain⟨n,hn⟩:∃n,n=mid+m:=⟨_,rfl⟩
 have wn:IntKind.i64.wrap ((mid:Int)+(m:Int))=(n:Int):=by rw[Zs];omega
 have wn':(mid:Int)+(m:Int)=(n:Int):=oq
 have q1:2*mid≤a+b∧a+b≤2*mid+1:=oq
 have HN:Hid (n=mid+m):=hn
 clear hmid hn HIH L FF
 go_enter F,Tryz.ntmps138
 go_upto_if 140 with fail
 go_cut [20,21] (fun s20 s21 W=>Hid (W=w∧∃st r:Nat,s20=.int .i64 st∧s21=.int .i64 r∧a≤st∧st≤r∧r≤m∧r≤mid∧n≤st+b∧(st=a∨n=st+b)∧(r=m∨r=mid)))
 case first =>
  have hn:=HN.out
  by_cases hc:mid<m
  ·have hcz:(mid:Int)<(m:Int):=oq
   obtain⟨st,hst⟩:∃st,st=n-b:=⟨_,rfl⟩
   have wst:IntKind.i64.wrap ((n:Int)-(b:Int))=(st:Int):=by rw[Zs];omega
   have g1:a≤st∧st≤mid∧mid≤m∧n=st+b:=oq
   clear hst hn
   go_wp2_with fail
   go_meet
   exact⟨rfl,st,mid,rfl,rfl,g1.1,g1.2.1,g1.2.2.1,Zc _,oq,.inr g1.2.2.2,.inr rfl⟩
  have hcz:¬(mid:Int)<(m:Int):=oq
  have g1:m≤mid∧n≤a+b:=oq
  clear hn
  go_wp2_with fail
  go_meet
  exact⟨rfl,a,m,rfl,rfl,Zc _,oq,Zc _,g1.1,g1.2,.inl rfl,.inl rfl⟩
 obtain⟨hww,st0,r0,rfl,rfl,g1,g2,g3,g4,g5,g6,g7⟩:=hcut.out
 clear hcut
 subst hww
 obtain⟨W1,rfl⟩:∃W1:World,W1=wc:=⟨_,rfl⟩
 obtain⟨p,hp⟩:∃p,p=n-1:=⟨_,rfl⟩
 have hn:=HN.out
 have wp:IntKind.i64.wrap ((n:Int)-1)=(p:Int):=by rw[Zs];omega
 have hpn:p+1=n:=oq
 have HPN:Hid (p+1=n∧n=mid+m):=⟨hpn,hn⟩
 clear hp hn hpn
 have G6:Hid (st0=a∨n=st0+b∨ltOf cf d[n-st0]! d[st0-1]! = false):=g6.elim .inl (fun h=>.inr (.inl h))
 have G7:Hid (r0=m∨r0=mid∨ltOf cf d[n-1-r0]! d[r0]! = true):=g7.elim .inl (fun h=>.inr (.inl h))
 clear g6 g7
 go_wp2
 go_loopg [20,21] (r0-st0) (fun kx s20 s21 wr=>∃(st r:Nat),s20=.int .i64 st∧s21=.int .i64 r∧a≤st∧st≤r∧r≤m∧r≤mid∧n≤st+b∧r-st≤kx∧Aside (SWK enc k w0 blk off d wr)∧Hid (st=a∨n=st+b∨ltOf cf d[n-st]! d[st-1]! = false)∧Hid (r=m∨r=mid∨ltOf cf d[n-1-r]! d[r]! = true))
 case atStart=>exact⟨st0,r0,rfl,rfl,g1,g2,g3,g4,g5,Zc _,S0,G6,G7⟩
 clear S0 G6 G7 g1 g2 g3 g4 g5
 obtain⟨st,r,rfl,rfl,h1,h2,h3,h4,h5,h6,S1,HO,HE⟩:=hrel
 by_cases hlt:st<r
 ·have hltz:(st:Int)<(r:Int):=oq
  have hpn:=HPN.out
  obtain⟨x0,hx0⟩:∃x0,x0=p-(st+r)/2:=⟨_,rfl⟩
  have wx0:IntKind.i64.wrap ((p:Int)-((st:Int)+(r:Int))/2)=(x0:Int):=by rw[Zs];omega
  have wx0':(p:Int)-((st:Int)+(r:Int))/2=(x0:Int):=oq
  have HX0:Hid (x0=p-(st+r)/2):=hx0
  cases hL:ltOf cf d[x0]! d[(st+r)/2]! with
  | false =>
   have ea1:((x0:Int)).toNat=x0:=oq
   have pa1:(0:Int)≤(x0:Int):=oq
   have ba1:(x0:Int)<(d.size:Int):=oq
   have ra1:IntKind.i64.wrap ((x0:Int))=(x0:Int):=by rw[Zs];omega
   have ec1:(((st:Int)+(r:Int))/2).toNat=(st+r)/2:=oq
   have pc1:(0:Int)≤((st:Int)+(r:Int))/2:=oq
   have bc1:((st:Int)+(r:Int))/2<(d.size:Int):=oq
   have rc1:IntKind.i64.wrap (((st:Int)+(r:Int))/2)=((st:Int)+(r:Int))/2:=by rw[Zs];omega
   obtain⟨x1,hx1⟩:∃x,x=d[x0]!:=⟨_,rfl⟩
   obtain⟨y1,hy1⟩:∃x,x=d[(st+r)/2]!:=⟨_,rfl⟩
   have l1a:=S1.out.ld R oq P (x0) oq
   have l1b:=S1.out.ld R oq P ((st+r)/2) oq
   rw[←hx1] at l1a
   rw[←hy1] at l1b
   have hc1:=S1.out.cmp HC.out oq x1 y1
   have hv1:¬cf x1 y1<0:=by rw[hx1,hy1];exact of_decide_eq_false (hL)
   have hd1:decide (cf x1 y1<0)=false:=ZZ hv1
   clear hx1 hy1 hpn hx0
   go_wp2_with fail
   go_quiet_grown (first|(go_at_fn g;refine Calls.grown_of (hc1 _ _)))
   have S2:Aside (SWK enc k w0 blk off d (grow (wr.drewN nq) osq)):=S1.out.grown nq osq
   clear l1a l1b hc1 S1
   generalize grow (wr.drewN nq) osq=w2 at S2 ⊢
   clear nq osq
   have hpn:=HPN.out
   have hx0:=HX0.out
   have HL:Hid (ltOf cf d[n-((st+r)/2+1)]! d[(st+r)/2]! = false):=by
    show _=_
    rw[show n-((st+r)/2+1)=x0 by omega];exact hL
   have g8:n≤(st+r)/2+1+b:=oq
   clear hL hpn hx0 wx0 wx0'
   go_wp2_with fail
   go_roundg (r-((st+r)/2+1))
   case measure=>omega
   exact⟨(st+r)/2+1,r,by rw[show((st:Int)+(r:Int))/2+1=(((st+r)/2+1:Nat):Int) by omega],rfl,oq,oq,h3,h4,g8,Zc _,S2,.inr (.inr (by rw[Nat.add_sub_cancel];exact HL.out)),HE⟩
  | true =>
   have ea1:((x0:Int)).toNat=x0:=oq
   have pa1:(0:Int)≤(x0:Int):=oq
   have ba1:(x0:Int)<(d.size:Int):=oq
   have ra1:IntKind.i64.wrap ((x0:Int))=(x0:Int):=by rw[Zs];omega
   have ec1:(((st:Int)+(r:Int))/2).toNat=(st+r)/2:=oq
   have pc1:(0:Int)≤((st:Int)+(r:Int))/2:=oq
   have bc1:((st:Int)+(r:Int))/2<(d.size:Int):=oq
   have rc1:IntKind.i64.wrap (((st:Int)+(r:Int))/2)=((st:Int)+(r:Int))/2:=by rw[Zs];omega
   obtain⟨x1,hx1⟩:∃x,x=d[x0]!:=⟨_,rfl⟩
   obtain⟨y1,hy1⟩:∃x,x=d[(st+r)/2]!:=⟨_,rfl⟩
   have l1a:=S1.out.ld R oq P (x0) oq
   have l1b:=S1.out.ld R oq P ((st+r)/2) oq
   rw[←hx1] at l1a
   rw[←hy1] at l1b
   have hc1:=S1.out.cmp HC.out oq x1 y1
   have hv1:cf x1 y1<0:=by rw[hx1,hy1];exact Yi (hL)
   have hd1:decide (cf x1 y1<0)=true:=Z0 hv1
   clear hx1 hy1 hpn hx0
   go_wp2_with fail
   go_quiet_grown (first|(go_at_fn g;refine Calls.grown_of (hc1 _ _)))
   have S2:Aside (SWK enc k w0 blk off d (grow (wr.drewN nq) osq)):=S1.out.grown nq osq
   clear l1a l1b hc1 S1
   generalize grow (wr.drewN nq) osq=w2 at S2 ⊢
   clear nq osq
   have hpn:=HPN.out
   have hx0:=HX0.out
   have HL:Hid (ltOf cf d[n-1-(st+r)/2]! d[(st+r)/2]! = true):=by
    show _=_
    rw[show n-1-(st+r)/2=x0 by omega];exact hL
   clear hL hpn hx0 wx0 wx0'
   go_wp2_with fail
   go_roundg ((st+r)/2-st)
   case measure=>omega
   exact⟨st,(st+r)/2,rfl,by rw[show((st:Int)+(r:Int))/2=(((st+r)/2:Nat):Int) by omega],h1,oq,oq,oq,h5,Zc _,S2,HO,.inr (.inr HL.out)⟩
 have hst:st=r:=oq
 subst hst
 have hltz:¬(st:Int)<(st:Int):=oq
 have hpn:=HPN.out
 obtain⟨e,he⟩:∃e,e=n-st:=⟨_,rfl⟩
 have we:IntKind.i64.wrap ((n:Int)-(st:Int))=(e:Int):=by rw[Zs];omega
 have hv:Hv (ltOf cf) a m b mid st e d:=by
  refine⟨h1,h3,oq,oq,oq,?_,?_⟩
  ·rcases HO.out with h|h|h
   ·exact .inl h
   ·exact .inr (.inl oq)
   exact .inr (.inr (by rw[he];exact h))
  rcases HE.out with h|h|h
  ·exact .inl h
  ·exact .inr (.inl oq)
  exact .inr (.inr (by rw[he,show n-st-1=n-1-st by omega];exact h))
 have HV:=hid hv
 have g9:st≤mid∧mid≤e∧e≤b:=oq
 clear he hpn hv HO HE HPN HN h2 h5 h6 hlt hltz wn wn' wp
 go_upto_region 39 with fail
 go_cut [185] from 185 to 185 (fun s185 W=>Hid (s185=.bool (decide (st<m)&&decide (m<e))∧W=wr))
 case first =>
  by_cases y1:st<m
  ·have z1:(st:Int)<(m:Int):=oq
   by_cases y2:m<e
   ·have z2:(m:Int)<(e:Int):=oq
    go_wp2_with fail
    go_meet
    exact⟨by simp[y1,y2],rfl⟩
   have z2:¬(m:Int)<(e:Int):=oq
   go_wp2_with fail
   go_meet
   exact⟨by simp[y1,y2],rfl⟩
  have z1:¬(st:Int)<(m:Int):=oq
  go_wp2_with fail
  go_meet
  exact⟨by simp[y1],rfl⟩
 obtain⟨rfl,hww⟩:=hcut.out
 clear hcut
 subst hww
 obtain⟨W2,rfl⟩:∃W2:World,W2=wc:=⟨_,rfl⟩
 generalize hb1:(decide (st<m)&&decide (m<e))=b1
 have HB1:=hid hb1
 clear hb1
 go_upto_if 185 with fail
 go_cut [] from 186 to 191 (fun W=>Hid (∃d1,d1.size=d.size∧PermIn a b d d1∧(∀x,d1[x]! = if st≤x∧x<mid then d[x+(m-st)]! else if mid≤x∧x<e then d[x-(e-m)]! else d[x]!)∧SWK enc k w0 blk off d1 W))
 case first =>
  have hv:=HV.out
  cases b1 with
  | true =>
   have y:=HB1.out
   rw[ZB,Yj,Yj] at y
   have hc:=HR.out st m e W2 y.1 y.2 (by have:=hv.hb;omega) S1.out
   have hfin:(QQ (e-st) d m (m-st) (e-m)).size=d.size∧PermIn a b d (QQ (e-st) d m (m-st) (e-m))∧(∀x,(QQ (e-st) d m (m-st) (e-m))[x]! = if st≤x∧x<mid then d[x+(m-st)]! else if mid≤x∧x<e then d[x-(e-m)]! else d[x]!):=by
    refine⟨uI _ _ _ _ _,permIn_mono _ _ _ _ _ _ ?_ ?_ oq (uH (e-st) d m (m-st) (e-m) oq (by have:=hv.hb;omega)),fun x=>?_⟩
    ·have:=hv.ha;omega
    ·have:=hv.hb;omega
    rw[ez (e-st) d m (m-st) (e-m) oq oq oq oq (by have:=hv.hb;omega),show m-(m-st)=st by omega,show st+(e-m)=mid by have:=hv.hd;omega,show m+(e-m)=e by omega]
   have HFIN:=hid hfin
   clear hfin hv y S1
   go_wp2_with (go_at_fn 163;refine hc.mono ?_;rintro e' w1 ⟨rfl,hw1⟩;have S2:Aside (SWK enc k w0 blk off _ w1):=hw1;clear hw1)
   go_meet
   exact⟨_,HFIN.out.1,HFIN.out.2.1,HFIN.out.2.2,S2.out⟩
  | false =>
   have y:=HB1.out
   have hfin:(∀x,d[x]! = if st≤x∧x<mid then d[x+(m-st)]! else if mid≤x∧x<e then d[x-(e-m)]! else d[x]!):=by
    have hme:st=m∨m=e:=by
     have k1:=hv.hm
     have k2:=hv.he
     by_cases y1:st<m
     ·by_cases y2:m<e
      ·simp[y1,y2] at y
      omega
     omega
    have hd:=hv.hd
    intro x
    by_cases k3:st≤x∧x<mid
    ·rw[Z2 k3];exact gx d oq
    rw[Z1 k3]
    by_cases k4:mid≤x∧x<e
    ·rw[Z2 k4];exact gx d oq
    rw[Z1 k4]
   have HFIN:=hid hfin
   clear hfin hv y
   go_wp2_with fail
   go_meet
   exact⟨d,rfl,permIn_refl _ _ _,HFIN.out,S1.out⟩
 obtain⟨d1,hs1,hp1,ht1,hw1⟩:=hcut.out
 have S2:Aside (SWK enc k w0 blk off d1 wc):=hw1
 have HP1:=hid hp1
 have HT1:=hid ht1
 clear hcut hp1 ht1 hw1 S1 HB1
 obtain⟨W3,rfl⟩:∃W3:World,W3=wc:=⟨_,rfl⟩
 go_upto_region 41 with fail
 go_cut [199] from 199 to 199 (fun s199 W=>Hid (s199=.bool (decide (a<st)&&decide (st<mid))∧W=W3))
 case first =>
  by_cases y1:a<st
  ·have z1:(a:Int)<(st:Int):=oq
   by_cases y2:st<mid
   ·have z2:(st:Int)<(mid:Int):=oq
    go_wp2_with fail
    go_meet
    exact⟨by simp[y1,y2],rfl⟩
   have z2:¬(st:Int)<(mid:Int):=oq
   go_wp2_with fail
   go_meet
   exact⟨by simp[y1,y2],rfl⟩
  have z1:¬(a:Int)<(st:Int):=oq
  go_wp2_with fail
  go_meet
  exact⟨by simp[y1],rfl⟩
 obtain⟨rfl,hww⟩:=hcut.out
 clear hcut
 subst hww
 obtain⟨W4,rfl⟩:∃W4:World,W4=wc:=⟨_,rfl⟩
 generalize hb1:(decide (a<st)&&decide (st<mid))=b1
 have HB1:=hid hb1
 clear hb1
 go_upto_if 199 with fail
 go_cut [] from 200 to 205 (fun W=>Hid (∃d2,d2.size=d.size∧Mrg (ltOf cf) a st mid d1 d2∧SWK enc k w0 blk off d2 W))
 case first =>
  cases b1 with
  | true =>
   have y:=HB1.out
   rw[ZB,Yj,Yj] at y
   have hc:=HI.out a st mid d1 W4 oq hs1 S2.out y.1 y.2 oq
   clear y S2
   go_wp2_with (go_at_fn 138;refine hc.mono ?_;rintro e' w1 ⟨rfl,d2,hm2,hw1⟩;have HM2:=hid hm2;have S3:Aside (SWK enc k w0 blk off d2 w1):=hw1;clear hw1 hm2)
   go_meet
   exact⟨d2,HM2.out.1.1.trans hs1,HM2.out,S3.out⟩
  | false =>
   have y:=HB1.out
   have hv:=HV.out
   have hfin:a=st∨st=mid:=by
    have k1:=hv.ha
    by_cases y1:a<st
    ·by_cases y2:st<mid
     ·simp[y1,y2] at y
     omega
    omega
   have HFIN:=hid hfin
   clear hfin hv y
   go_wp2_with fail
   go_meet
   exact⟨d1,hs1,GD _ _ HFIN.out,S2.out⟩
 obtain⟨d2,hs2,hm2,hw2⟩:=hcut.out
 have S3:Aside (SWK enc k w0 blk off d2 wc):=hw2
 have HM2:=hid hm2
 clear hcut hm2 hw2 S2 HB1
 obtain⟨W5,rfl⟩:∃W5:World,W5=wc:=⟨_,rfl⟩
 have FIN:=hid (fun(d3:Array α) (h:Mrg (ltOf cf) mid e b d2 d3)=>E9 (n:=0) HV.out.ha HV.out.hm HV.out.he HV.out.hb hb HV.out.hd HV.out.ho HV.out.hn HT1.out HP1.out HM2.out h)
 by_cases y1:mid<e
 ·have z1:(mid:Int)<(e:Int):=oq
  by_cases y2:e<b
  ·have z2:(e:Int)<(b:Int):=oq
   have hc:=HI.out mid e b d2 W5 oq hs2 S3.out y1 y2 hb
   clear S3
   go_wp2_with (go_at_fn 138;refine hc.mono ?_;rintro e' w1 ⟨rfl,d3,hm3,hw1⟩;have HM3:=hid hm3;have S4:Aside (SWK enc k w0 blk off d3 w1):=hw1;clear hw1 hm3)
   go_end0
   exact⟨rfl,d3,FIN.out _ HM3.out,S4.out⟩
  have z2:¬(e:Int)<(b:Int):=oq
  have hfin:mid=e∨e=b:=oq
  have HFIN:=hid hfin
  clear hfin
  go_wp2_with fail
  go_end0
  exact⟨rfl,d2,FIN.out _ (GD _ _ HFIN.out),S3.out⟩
 have z1:¬(mid:Int)<(e:Int):=oq
 have hfin:mid=e∨e=b:=oq
 have HFIN:=hid hfin
 clear hfin
 go_wp2_with fail
 go_end0
 exact⟨rfl,d2,FIN.out _ (GD _ _ HFIN.out),S3.out⟩
theorem ZaF (L:JL P k) (FF:JF P) (enc:α→List Value) (cf:α→α→Int) (g:Nat) (cb:Array Value) (blk off cap:Nat) (d0:Array α) (w0:World) (eg:∀args w,(callFunc g args).run P w=.ok (.enter g args) w) (hcmp:CmpLays P g cb enc k cf blk off d0.size w0) (R:RowK enc k w0 blk off d0) (hsz:d0.size<2305843009213693952) :
  ∀(N a m b:Nat) (d:Array α) (w:World),b-a<N→d0.size=d.size→SWK enc k w0 blk off d w→a<m→m<b→b≤d.size →
  Calls P 138 #[.slice (some ⟨blk,off,none⟩) d.size cap,.int .i64 a,.int .i64 m,.int .i64 b,.func (.func g) #[] cb] w fun e w'=>e=.returned (.tuple #[])∧∃d',Mrg (ltOf cf) a m b d d'∧SWK enc k w0 blk off d' w':=by
 intro N
 induction N with
 | zero=>intro a m b d w h;omega
 | succ N ih =>
  intro a m b d w hN hs S ham hmb hb
  by_cases h1:m=a+1
  ·exact Zbe L FF enc cf g cb blk off cap a m b d0 d w0 w eg hcmp R hs S hb oq h1 hmb
  by_cases h2:b=m+1
  ·exact gS L FF enc cf g cb blk off cap a m b d0 d w0 w eg hcmp R hs S hb oq ham h1 h2
  refine kG L FF enc cf g cb blk off cap a m b d0 d w0 w eg hcmp R hs S hb oq ham h1 hmb h2 fun a' m' b' dk W h3 h4 h5 h6 h7 h8=>?_
  have:=ih a' m' b' dk W oq oq h5 h6 h7 oq
  rw[h4] at this
  exact this
end
def ZbK:Ren:=⟨fun x=>if x=20 then 137 else x,fun x=>if x=24 then 43 else if x=22 then 37 else if x=25 then 144 else if x=3 then 3 else if x=4 then 4 else x,fun x=>x⟩
section
variable {P:Program} {α:Type} [Inhabited α] {k:Nat}
theorem uP (FF : JF P) : Bears P (ZbK.f 20) (SlBodyF.n20 ZbK) := ⟨"slices.insertionSortCmpFunc[horarium/deadline.Job]", by kernel_rfl, FF.fI⟩
theorem kK (L:JL P k) (FF:JF P):SlLaysF0.n20 P ZbK where
 mixed:=L.mixed
 f20:=uP FF
 t0:=L.t0
 a0:=L.a0
 z0:=L.z0
 v0:=L.v0
 t3:=L.t3
 a3:=L.a3
 z3:=L.z3
 v3:=L.v3
 t4:=L.t4
 a4:=L.a4
 z4:=L.z4
 v4:=L.v4
 t22:=L.t53
 a22:=L.a53
 z22:=L.z53
 v22:=L.v53
 t25:=L.t156
 a25:=L.a156
 z25:=L.z156
 v25:=L.v156
theorem Zcb {enc:α→List Value} {cf:α→α→Int} {g:Nat} {cb:Array Value} {blk off size:Nat} {w0 W:World} {d:Array α} (hcmp:CmpLays P g cb enc k cf blk off size w0) (S:SWK enc k w0 blk off d W) (hblk:blk<w0.heap.size) (hs:d.size=size):CmpLays P g cb enc k cf blk off size W:=by
 intro m os dk hk x y
 obtain⟨n,os2,he⟩:=S.on hblk m dk os oq
 rw[he]
 exact hcmp n os2 dk hk x y
theorem Zau (L:JL P k) (FF:JF P) (enc:α→List Value) (cf:α→α→Int) (g:Nat) (cb:Array Value) (blk off cap a b:Nat) (d0 d:Array α) (w0 w:World)
  (eg:∀args w,(callFunc g args).run P w=.ok (.enter g args) w) (hcmp:CmpLays P g cb enc k cf blk off d0.size w0) (R:RowK enc k w0 blk off d0) (hs:d0.size=d.size) (S:SWK enc k w0 blk off d w) (hab:a≤b) (hb:b≤d.size) (hsz:d.size<2305843009213693952) :
  Calls P 137 #[.slice (some ⟨blk,off,none⟩) d.size cap,.int .i64 a,.int .i64 b,.func (.func g) #[] cb] w fun e w'=>e=.returned (.tuple #[])∧SWK enc k w0 blk off (insertionSort (ltOf cf) d a b) w':=by
 have h:=AnyQ.insertionSortCmpFunc (kK L FF) k L.aE L.zE enc R.hk R.h1 cf g cb blk off cap a b d w eg (by rw[←hs];exact Zcb hcmp S R.hblk hs.symm) (S.holds R.hblk R.hH hs.symm) (S.lt R.hblk) hab hb oq
 refine h.mono ?_
 rintro e w' ⟨rfl,n,os,rfl⟩
 exact⟨rfl,S.on R.hblk n _ os (X7 (ltOf cf) d a b hab hb).1.1⟩
end
end Go.Proofs.YtgigilkpndhddaaGreatDoor.syn
