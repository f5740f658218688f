/-
  Parts of the proof: Stb5, Stb6, Stb7, Dl3, Ord3, OrdB.
-/
import Derived.Deep.OwnRows
import Derived.StillTailTactics
import Derived.Test.YtgigilkpndhddaaGreatDoorQ05
import Derived.Test.YtgigilkpndhddaaGreatDoorQ06
import Derived.Test.YtgigilkpndhddaaGreatDoorQ09
import Derived.Test.YtgigilkpndhddaaGreatDoorQ31
namespace Go.Proofs.YtgigilkpndhddaaGreatDoor.syn
set_option linter.unusedVariables false
set_option linter.unusedSimpArgs false
set_option linter.unnecessarySimpa false
set_option maxRecDepth 100000
set_option maxHeartbeats 16000000
open Go.Shelf Go.RowKit Go.Lib Go.Sort Go.Proofs
section
variable {P:Program} {α:Type} [Inhabited α] {k:Nat}
def UA (lt:α→α→Bool) (d d':Array α):Prop:=PermIn 0 d.size d d'∧∀R:α→α→Prop,(∀x y z,R x y→R y z→R x z)→(∀p q,p<q→q<d.size→Pr lt R d[p]! d[q]!)→Srt R 0 d.size d'
set_option maxRecDepth 1000000 in
theorem qR (L:JL P k) (FF:JF P) (enc:α→List Value) (cf:α→α→Int) (g:Nat) (cb:Array Value) (blk off cap:Nat) (d0 d:Array α) (w0 w:World)
  (eg:∀args w,(callFunc g args).run P w=.ok (.enter g args) w) (hcmp:CmpLays P g cb enc k cf blk off d0.size w0) (R:RowK enc k w0 blk off d0) (hs:d0.size=d.size) (S:SWK enc k w0 blk off d w) (hsz:d.size<1152921504606846976) :
  Calls P 110 #[.slice (some ⟨blk,off,none⟩) d.size cap,.int .i64 d.size,.func (.func g) #[] cb] w fun e w'=>e=.returned (.tuple #[])∧∃d',UA (ltOf cf) d d'∧SWK enc k w0 blk off d' w':=by
 have mixed:=L.mixed;have t0:=L.t0;have a0:=L.a0;have z0:=L.z0;have v0:=L.v0;have t3:=L.t3;have a3:=L.a3;have z3:=L.z3;have v3:=L.v3;have t4:=L.t4;have a4:=L.a4;have z4:=L.z4;have v4:=L.v4;have t53:=L.t53;have a53:=L.a53;have z53:=L.z53;have v53:=L.v53;have t156:=L.t156;have a156:=L.a156;have z156:=L.z156;have v156:=L.v156
 have F:=FF.fB
 have eI:=FF.eI
 have eM:=FF.eM
 obtain⟨n,hn⟩:∃n,n=d.size:=⟨_,rfl⟩
 have HI:=hid (fun(dk:Array α) (x y:Nat) (W:World) (h1:dk.size=n) (h2:SWK enc k w0 blk off dk W) (h3:x≤y) (h4:y≤n)=>Zau L FF enc cf g cb blk off cap x y d0 dk w0 W eg hcmp R oq h2 h3 oq oq)
 have HM:=hid (fun(dk:Array α) (x y z:Nat) (W:World) (h1:dk.size=n) (h2:SWK enc k w0 blk off dk W) (h3:x<y) (h4:y<z) (h5:z≤n)=>ZaF L FF enc cf g cb blk off cap d0 w0 eg hcmp R oq (z-x+1) x y z dk W oq oq h2 h3 h4 oq)
 have S0:Aside (SWK enc k w0 blk off d w):=S
 have G0:Aside (Stg (ltOf cf) n (Kp 1 20 (20*0)) d d):=uO _ _ _ _
 have hnz:n<1152921504606846976:=oq
 have HN:Aside (n=d.size):=hn
 have HFIN:=hid (fun(dk:Array α) (s t:Nat) (h:Stg (ltOf cf) n (Kp s t 0) d dk) (h2:n≤s)=>(show UA (ltOf cf) d dk from by rw[hn] at h h2;exact h.all h2))
 rw[←hn]
 clear hcmp S hs R hsz L FF hn
 go_enter F,Tryz.ntmps110
 go_wp2
 go_loopg [7,8] n (fun kx s7 s8 wr=>∃(u v c:Nat) (dk:Array α),s7=.int .i64 u∧s8=.int .i64 v∧u≤n∧n-u≤kx∧v≤n+20∧Hid (u=20*c∧v=u+20)∧dk.size=n∧Aside (SWK enc k w0 blk off dk wr)∧Aside (Stg (ltOf cf) n (Kp 1 20 (20*c)) d dk))
 case atStart=>exact⟨0,20,0,d,by go_num,by go_num,oq,oq,oq,⟨rfl,rfl⟩,HN.symm,S0,G0⟩
 clear S0 G0
 obtain⟨u,v,c,dk,rfl,rfl,h1,h2,h3,HU,hds,S1,G1⟩:=hrel
 by_cases hlt:v≤n
 ·have hltz:(v:Int)≤(n:Int):=oq
  have huv:=HU.out
  have hc:=HI.out dk u v wr hds S1.out oq hlt
  rw[hds] at hc
  have wv:IntKind.i64.wrap ((v:Int)+20)=((v+20:Nat):Int):=by rw[Zs];omega
  have hG:Stg (ltOf cf) n (Kp 1 20 (20*(c+1))) d (insertionSort (ltOf cf) dk u v):=by
   have:=G1.out.ins (b:=v) oq oq oq oq hlt (.inl oq)
   rw[show 20*(c+1)=v by omega,huv.1]
   exact this
  have G2:Aside _:=hG
  have hd2:(insertionSort (ltOf cf) dk u v).size=n:=(X7 (ltOf cf) dk u v oq oq).1.1.trans hds
  have g1:n-v<n-u∧v=20*(c+1):=oq
  have HG1:Hid (n-v<n-u∧v=20*(c+1)):=g1
  clear S1 G1 hG huv g1
  go_wp2_with (go_at_fn 137;refine hc.mono ?_;rintro e w1 ⟨rfl,hw1⟩;have S2:Aside (SWK enc k w0 blk off _ w1):=hw1;clear hw1)
  go_roundg (n-v)
  case measure=>have:=HG1.out;omega
  exact⟨v,v+20,c+1,_,rfl,by go_num,hlt,Zc _,oq,⟨HG1.out.2,rfl⟩,hd2,S2,G2⟩
 have hltz:¬(v:Int)≤(n:Int):=oq
 have huv:=HU.out
 have hc:=HI.out dk u n wr hds S1.out h1 (Zc _)
 rw[hds] at hc
 have hG:Stg (ltOf cf) n (Kp 20 40 0) d (insertionSort (ltOf cf) dk u n):=by
  have:=G1.out.ins (b:=n) oq oq oq oq (Zc _) (.inr rfl)
  rw[huv.1]
  exact this.over
 have G2:Aside _:=hG
 have hd2:(insertionSort (ltOf cf) dk u n).size=n:=(X7 (ltOf cf) dk u n h1 oq).1.1.trans hds
 clear S1 G1 hG huv HU
 go_wp2_with (go_at_fn 137;refine hc.mono ?_;rintro e w1 ⟨rfl,hw1⟩;have S2:Aside (SWK enc k w0 blk off _ w1):=hw1;clear hw1)
 have G2':Hid (∃t,Stg (ltOf cf) n (Kp 20 t 0) d (insertionSort (ltOf cf) dk u n)):=⟨40,G2⟩
 clear hc hds h1 h2 h3 hlt hltz HI G2
 generalize insertionSort (ltOf cf) dk u n=dk1 at S2 hd2 G2'
 obtain⟨W1,rfl⟩:∃W1:World,W1=w1:=⟨_,rfl⟩
 go_wp2
 go_loopg [6] n (fun kx s6 wr=>∃(s:Nat) (dk:Array α),s6=.int .i64 s∧0<s∧s≤2*n+40∧n-s≤kx∧dk.size=n∧Aside (SWK enc k w0 blk off dk wr)∧Hid (∃t,Stg (ltOf cf) n (Kp s t 0) d dk))
 case atStart=>exact⟨20,dk1,by go_num,oq,oq,oq,hd2,S2,G2'⟩
 clear S2 G2' hd2
 obtain⟨s,dk2,rfl,q1,q2,q3,hds2,S3,G3⟩:=hrel
 by_cases hlt2:s<n
 ·have hltz2:(s:Int)<(n:Int):=oq
  obtain⟨t,ht⟩:∃t,t=s*2:=⟨_,rfl⟩
  have wt:IntKind.i64.wrap (2*(s:Int))=(t:Int):=by rw[Zs];omega
  have wt2:IntKind.i64.wrap ((s:Int)*2)=(t:Int):=by rw[Zs];omega
  have G4:Aside (Stg (ltOf cf) n (Kp s (s*2) (s*2*0)) d dk2):=by
   obtain⟨t',h⟩:=G3.out
   exact h.congr fun i j _ _=>by unfold Kp;rw[Nat.mul_zero,Z1 (Yk _),Z1 (Yk _)]
  have g1:s<t∧t≤2*n∧t<2305843009213693952:=oq
  have HT:Hid (t=s*2):=ht
  clear ht G3
  go_wp2
  go_loopg [7,8] n (fun ky s7 s8 wr=>∃(u v c:Nat) (dk:Array α),s7=.int .i64 u∧s8=.int .i64 v∧u≤n∧n-u≤ky∧v≤n+t∧Hid (u=s*2*c∧v=u+t)∧dk.size=n∧Aside (SWK enc k w0 blk off dk wr)∧Aside (Stg (ltOf cf) n (Kp s (s*2) (s*2*c)) d dk))
  case atStart=>exact⟨0,t,0,dk2,by go_num,rfl,oq,oq,oq,⟨rfl,oq⟩,hds2,S3,G4⟩
  clear S3 G4
  obtain⟨u,v,c,dk,rfl,rfl,h1,h2,h3,HU,hds,S1,G1⟩:=hrel
  have huv:=HU.out
  have ht:=HT.out
  have hex:s*2*(c+1)=u+t:=by rw[Nat.mul_succ,←huv.1,ht]
  obtain⟨x,hx⟩:∃x,x=u+s:=⟨_,rfl⟩
  have wx:IntKind.i64.wrap ((u:Int)+(s:Int))=(x:Int):=by rw[Zs];omega
  by_cases hlt:v≤n
  ·have hltz:(v:Int)≤(n:Int):=oq
   have hc:=HM.out dk u x v wr hds S1.out oq oq hlt
   rw[hds] at hc
   have wv:IntKind.i64.wrap ((v:Int)+(t:Int))=((v+t:Nat):Int):=by rw[Zs];omega
   have G5:=hid (fun(d':Array α) (hM:Mrg (ltOf cf) u x v dk d')=>(show Aside (Stg (ltOf cf) n (Kp s (s*2) (s*2*(c+1))) d d')∧d'.size=n from by
    have hM':Mrg (ltOf cf) (s*2*c) (s*2*c+s) v dk d':=by rw[←huv.1,←hx];exact hM
    have:=G1.out.mrg q1 oq oq oq hlt (.inl oq) hM'
    rw[hex,←huv.2]
    exact⟨this,hM.1.1.trans hds⟩))
   have HG1:Hid (n-v<n-u∧v=s*2*(c+1)∧v+t≤n+t):=by show _∧_;omega
   clear S1 G1 huv ht hex hx
   go_wp2_with (go_at_fn 138;refine hc.mono ?_;rintro e w1 ⟨rfl,d',hM,hw1⟩;have S2:Aside (SWK enc k w0 blk off d' w1):=hw1;have HMM:=hid hM;clear hw1 hM)
   go_roundg (n-v)
   case measure=>have:=HG1.out;omega
   exact⟨v,v+t,c+1,d',rfl,by go_num,hlt,Zc _,HG1.out.2.2,⟨HG1.out.2.1,rfl⟩,(G5.out d' HMM.out).2,S2,(G5.out d' HMM.out).1⟩
  have hltz:¬(v:Int)≤(n:Int):=oq
  have g2:n-t<n-s∧t≤2*n+40:=oq
  have HG2:=hid g2
  by_cases hxn:x<n
  ·have hxz:(x:Int)<(n:Int):=oq
   have hc:=HM.out dk u x n wr hds S1.out oq hxn (Zc _)
   rw[hds] at hc
   have G5:=hid (fun(d':Array α) (hM:Mrg (ltOf cf) u x n dk d')=>(show Hid (∃t',Stg (ltOf cf) n (Kp t t' 0) d d')∧d'.size=n from by
    have hM':Mrg (ltOf cf) (s*2*c) (s*2*c+s) n dk d':=by rw[←huv.1,←hx];exact hM
    have:=G1.out.mrg q1 oq oq oq (Zc _) (.inr rfl) hM'
    rw[ht]
    exact⟨⟨0,this.over⟩,hM.1.1.trans hds⟩))
   clear S1 G1 huv ht hex hx g2
   go_wp2_with (go_at_fn 138;refine hc.mono ?_;rintro e w1 ⟨rfl,d',hM,hw1⟩;have S2:Aside (SWK enc k w0 blk off d' w1):=hw1;have HMM:=hid hM;clear hw1 hM)
   go_roundg (n-t)
   case measure=>have:=HG2.out;omega
   exact⟨t,d',rfl,oq,HG2.out.2,Zc _,(G5.out d' HMM.out).2,S2,(G5.out d' HMM.out).1⟩
  have hxz:¬(x:Int)<(n:Int):=oq
  have G5:Hid (∃t',Stg (ltOf cf) n (Kp t t' 0) d dk):=by
   have:=G1.out.alone q1 oq
   rw[ht]
   exact⟨0,this.over⟩
  clear G1 huv ht hex hx g2
  go_wp2_with fail
  go_roundg (n-t)
  case measure=>have:=HG2.out;omega
  exact⟨t,dk,rfl,oq,HG2.out.2,Zc _,hds,S1,G5⟩
 have hltz2:¬(s:Int)<(n:Int):=oq
 have hfin:UA (ltOf cf) d dk2:=by
  obtain⟨t',h⟩:=G3.out
  exact HFIN.out dk2 s t' h oq
 have HF:=hid hfin
 clear hfin G3
 go_wp2
 go_end0
 exact⟨rfl,dk2,HF.out,S3.out⟩
end
section
variable {P:Program} {α:Type} [Inhabited α] {k:Nat}
set_option maxRecDepth 1000000 in
theorem GE (L:JL P k) (FF:JF P) (F:P.funcs[66]?=some Tryz.f66) (enc:α→List Value) (cf:α→α→Int) (g:Nat) (cb:Array Value) (blk off cap:Nat) (d:Array α) (w:World)
  (eg:∀args w,(callFunc g args).run P w=.ok (.enter g args) w) (hcmp:CmpLays P g cb enc k cf blk off d.size w) (R:RowK enc k w blk off d) (hsz:d.size<1152921504606846976) :
  Calls P 66 #[.slice (some ⟨blk,off,none⟩) d.size cap,.func (.func g) #[] cb] w fun e w'=>e=.returned (.tuple #[])∧∃d',UA (ltOf cf) d d'∧SWK enc k w blk off d' w':=by
 have mixed:=L.mixed;have t0:=L.t0;have a0:=L.a0;have z0:=L.z0;have v0:=L.v0;have t3:=L.t3;have a3:=L.a3;have z3:=L.z3;have v3:=L.v3;have t53:=L.t53;have a53:=L.a53;have z53:=L.z53;have v53:=L.v53;have t156:=L.t156;have a156:=L.a156;have z156:=L.z156;have v156:=L.v156
 have eB:=FF.eB
 have hc:=qR L FF enc cf g cb blk off cap d d w w eg hcmp R rfl (SWK.start R.hH) hsz
 clear hcmp R L FF eg
 go_enter F,Tryz.ntmps66
 go_wp2_with (go_at_fn 110;refine hc.mono ?_;rintro e w1 ⟨rfl,hw1⟩)
 go_end0
 exact⟨rfl,hw1⟩
end
structure YA where
 t:Int
 n:Int
 r:Int
 d:Int
 na:Option Addr
 nl:Nat
 nc:Nat
instance:Inhabited YA:=⟨⟨0,0,0,0,none,0,0⟩⟩
def Qb (x:YA):List Value:=[.int .i64 x.t,.int .i64 x.n,.int .i64 x.r,.int .i64 x.d,.slice x.na x.nl x.nc]
def ks (x y:Int):Int:=if x<y then -1 else if y<x then 1 else 0
def cfJ (x y:YA):Int:=ks x.r y.r
theorem UN (x:Int) (w:World):Calls Tryz.prog 111 #[.int .i64 x] w fun e w'=>e=.returned (.bool false)∧w'=w:=by
 go_enter Tryz.func111,Tryz.ntmps111
 go_wp2
 go_ret
 exact⟨by simp,rfl⟩
theorem ym (x y:Int) (w:World):Calls Tryz.prog 68 #[.int .i64 x,.int .i64 y] w fun e w'=>e=.returned (.int .i64 (ks x y))∧w'=w:=by
 unfold ks
 by_cases h1:x<y
 ·rw[Z2 h1]
  go_enter Tryz.func68,Tryz.ntmps68
  go_wp2_with (go_at_call 111;refine(UN _ _).mono ?_;rintro e w' ⟨rfl,rfl⟩)
  go_ret
  exact⟨rfl,rfl⟩
 rw[Z1 h1]
 by_cases h2:y<x
 ·rw[Z2 h2]
  go_enter Tryz.func68,Tryz.ntmps68
  go_wp2_with (go_at_call 111;refine(UN _ _).mono ?_;rintro e w' ⟨rfl,rfl⟩)
  go_ret
  exact⟨rfl,rfl⟩
 rw[Z1 h2]
 go_enter Tryz.func68,Tryz.ntmps68
 go_wp2_with (go_at_call 111;refine(UN _ _).mono ?_;rintro e w' ⟨rfl,rfl⟩)
 go_ret
 exact⟨rfl,rfl⟩
theorem kM (x y:YA) (w:World):Calls Tryz.prog 67 #[.agg (Qb x).toArray,.agg (Qb y).toArray] w fun e w'=>e=.returned (.int .i64 (cfJ x y))∧∃q os',w'=grow (w.drewN q) os':=by
 obtain⟨c,hc⟩:∃c,ks x.r y.r=c:=⟨_,rfl⟩
 have HC:=hid (fun(W:World)=>ym x.r y.r W)
 rw[hc] at HC
 unfold cfJ
 rw[hc]
 clear hc
 unfold Qb
 obtain⟨xt,xn,xr,xd,xa,xl,xc⟩:=x
 obtain⟨yt,yn,yr,yd,ya,yl,yc⟩:=y
 simp only at HC ⊢
 go_enter Tryz.func67,Tryz.ntmps67
 go_wp2_with (go_at_call 68;refine(HC.out _).mono ?_;rintro e w' ⟨rfl,rfl⟩)
 go_ret
 refine⟨rfl,?_⟩
 exact⟨0,#[_,_],by rw[alloc_eq_grow,alloc_eq_grow,grow_grow];rfl⟩
theorem uy (blk off size:Nat) (w:World):CmpLays Tryz.prog 67 #[] Qb 5 cfJ blk off size w:=fun m os dk _ x y=>kM x y _
theorem kI (x:YA):(Qb x).length=5:=rfl
theorem kB (x:YA):∀v∈Qb x,v.oneCell'=true:=by
 intro v hv
 simp only[Qb,ZR,List.not_mem_nil,or_false] at hv
 rcases hv with rfl|rfl|rfl|rfl|rfl<;>rfl
theorem E4 (blk off cap:Nat) (d:Array YA) (w:World) (hH:HoldsK Qb 5 w blk off d) (hblk:blk<w.heap.size) (hsz:d.size<1152921504606846976) :
  Calls Tryz.prog 66 #[.slice (some ⟨blk,off,none⟩) d.size cap,.func (.func 67) #[] #[]] w fun e w'=>e=.returned (.tuple #[])∧∃d',UA (ltOf cfJ) d d'∧SWK Qb 5 w blk off d' w' :=
 GE kw uw Tryz.func66 Qb cfJ 67 #[] blk off cap d w (Go.Proofs.enters_of Tryz.func67 kq rfl) (uy _ _ _ _) ⟨kI,kB,hH,hblk⟩ hsz
open Go.RowKit Go.Sort
structure JH (W:World) (jb jo:Nat) (d:Array YA):Prop where
 holds:HoldsK Qb 5 W jb jo d
 lt:jb<W.heap.size
theorem JH.cell {W:World} {jb jo:Nat} {d:Array YA} (h:JH W jb jo d) {i:Nat} (hi:i<d.size) :
  (W.cell? ⟨jb,jo+i*5,none⟩=some (.int .i64 d[i]!.t)∧W.cell? ⟨jb,jo+i*5+1,none⟩=some (.int .i64 d[i]!.n)∧W.cell? ⟨jb,jo+i*5+2,none⟩=some (.int .i64 d[i]!.r)∧W.cell? ⟨jb,jo+i*5+3,none⟩=some (.int .i64 d[i]!.d)∧W.cell? ⟨jb,jo+i*5+4,none⟩=some (.slice d[i]!.na d[i]!.nl d[i]!.nc)) ∧
   W.frozen? ⟨jb,jo+i*5+3,none⟩=false∧W.frozen? ⟨jb,jo+i*5+4,none⟩=false:=by
 have h0:=HoldsK.cell h.holds hi (c:=0) oq
 have h1:=HoldsK.cell h.holds hi (c:=1) oq
 have h2:=HoldsK.cell h.holds hi (c:=2) oq
 have h3:=HoldsK.cell h.holds hi (c:=3) oq
 have h4:=HoldsK.cell h.holds hi (c:=4) oq
 exact⟨⟨h0.1,h1.1,h2.1,h3.1,h4.1⟩,h3.2,h4.2⟩
theorem JH.but {W W':World} {jb jo:Nat} {d:Array YA} (h:JH W jb jo d) (hb:W'.heap[jb]?=W.heap[jb]?):JH W' jb jo d:=by
 refine⟨fun j hj=>?_,?_⟩
 ·have h1:=h.holds j hj
  refine⟨(Zn (w:=W) (a:=⟨jb,jo+j,none⟩) hb).trans h1.1,?_⟩
  have:W'.frozen? ⟨jb,jo+j,none⟩=W.frozen? ⟨jb,jo+j,none⟩:=by unfold World.frozen?;rw[hb]
  rw[this];exact h1.2
 have h1:=h.lt
 apply Yh
 intro hc
 rw[Array.getElem?_eq_none oq,Ym h1] at hb
 cases hb
theorem JH.put {W:World} {jb jo:Nat} {d:Array YA} (h:JH W jb jo d) {i c:Nat} (hi:i<d.size) (hc:c<5) {v:Value} {x:YA} (hx:(Qb d[i]!).set c v=Qb x):JH (W.setCell ⟨jb,jo+i*5+c,none⟩ v) jb jo (d.setIfInBounds i x):=by
 refine⟨fun j hj=>?_,by simpa using h.lt⟩
 have hj':j<d.size*5:=by simpa using hj
 have h1:=h.holds j (by simpa using hj')
 rw[get_flatK _ _ _ _ (by simpa using hj')]
 rw[get_flatK _ _ _ _ hj'] at h1
 refine⟨?_,by rw[World.frozen?_setCell];exact h1.2⟩
 by_cases he:j=i*5+c
 ·subst he
  have e1:(i*5+c)/5=i:=oq
  have e2:(i*5+c)%5=c:=oq
  rw[e1,e2,getElem!_set_same _ _ _ hi,←hx]
  have h2:((Qb d[i]!).set c v)[c]! = v:=by
   rw[getElem!_pos _ c (by simp;exact hc)]
   simp
  show(W.setCell _ v).cell? ⟨jb,jo+(i*5+c),none⟩=some (id _)
  rw[h2,←Nat.add_assoc]
  refine World.cell?_setCell_same' _ _ _ ?_
  rw[Nat.add_assoc,h1.1];rfl
 have e3:(W.setCell ⟨jb,jo+i*5+c,none⟩ v).cell? ⟨jb,jo+j,none⟩=W.cell? ⟨jb,jo+j,none⟩:=World.cell?_setCell_other _ _ _ _ (by intro e;injection e with _ e _;omega)
 rw[e3,h1.1]
 congr 2
 by_cases hq:j/5=i
 ·rw[hq,getElem!_set_same _ _ _ hi,←hx]
  have hm:j%5≠c:=fun e=>he oq
  have hm5:j%5<5:=Nat.mod_lt _ oq
  have hl:(Qb d[i]!).length=5:=rfl
  rw[getElem!_pos _ (j%5) (show j%5<(Qb d[i]!).length by rw[hl];exact hm5),getElem!_pos _ (j%5) (show j%5<((Qb d[i]!).set c v).length by rw[List.length_set,hl];exact hm5),List.getElem_set_ne (fun e=>hm e.symm)]
 have hq2:j/5<d.size:=oq
 have:(d.setIfInBounds i x)[j/5]! = d[j/5]!:=by
  rw[getElem!_pos d _ hq2,getElem!_pos (d.setIfInBounds i x) _ (by simpa using hq2),Array.getElem_setIfInBounds_ne (by simpa using hq2) (fun e=>hq e.symm)]
 rw[this]
def Xr (d:Array YA) (p:Nat) (x:Int):Array YA:=d.setIfInBounds p { d[p]! with d:=min d[p]!.d x }
theorem Jg (d:Array YA) (p:Nat) (x:Int):(Xr d p x).size=d.size:=by simp[Xr]
def Zdh (W:World) (jb jo:Nat) (d':Array YA) (e:Ending) (w':World):Prop:=e=.returned (.tuple #[])∧JH w' jb jo d'∧But (fun k=>k=jb) W w'
theorem Ez {W:World} (wb jb jo cj:Nat) (d:Array YA) (hc:W.cell? ⟨wb,5,none⟩=some (.slice (some ⟨jb,jo,none⟩) d.size cj)) (hJ:JH W jb jo d) (p:Nat) (hp:p<d.size) (x:Int) :
  Calls Tryz.prog 72 #[.pointer (some ⟨wb,0,none⟩),.int .i64 (p:Int),.int .i64 x] W (Zdh W jb jo (Xr d p x)):=by
 obtain⟨⟨h0,h1,h2,h3,h4⟩,f3,f4⟩:=hJ.cell hp
 obtain⟨y,hy⟩:∃y,d[p]!.d=y:=⟨_,rfl⟩
 rw[hy] at h3
 have HJ:=hid hJ
 have HY:=hid hy
 have p0:(0:Int)≤(p:Int):=oq
 have p1:(p:Int)<(d.size:Int):=oq
 obtain⟨n,hn⟩:∃n,d.size=n:=⟨_,rfl⟩
 rw[hn] at hc hp p1
 clear h0 h1 h2 h4 f4 hJ hy
 go_enter Tryz.func72,Tryz.ntmps72
 go_still_tail 17,kq
 change wpList _ _ _ _ _ W.drew
 go_wp2
 go_end0
 refine⟨rfl,?_,?_⟩
 ·rw[show Xr d p x=d.setIfInBounds p { d[p]! with d:=min y x } by unfold Xr;rw[HY.out]]
  exact(HJ.out.but (W':=W.drew) rfl).put (by rw[hn];exact hp) oq rfl
 exact((But.refl _ W).drew).then (But.set (S:=fun k=>k=jb) rfl _) (fun _ _ e=>e)
open Go.RowKit
theorem zA (l:List Value) (i:Nat) (u:Value):l.toArray.setIfInBounds i u=(l.set i u).toArray:=by simp
structure WaM (W2 W:World) (T wb mb rb:Nat) (vq:Value) (vs:List Value) (s:WS):Prop where
 but:But (fun k=>k=mb∨k=rb∨k=wb) W2 W
 lt:mb<W2.heap.size∧rb<W2.heap.size∧wb<W2.heap.size
 ne:mb≠rb∧mb≠wb∧rb≠wb
 box:W.heap[wb]?=some (.cells #[vq,.slice (some ⟨mb,0,none⟩) T T,.slice (some ⟨rb,0,none⟩) T T] 137 (0,0))
 many:W.heap[mb]?=some (.cells (ints s.many).toArray 3 (0,0))
 rds:W.heap[rb]?=some (.cells vs.toArray 41 (0,0))
 fam:Fam W W2.heap.size 3 (vq::vs) (ints s.q::s.rd.map ints)
 ok:WOk T s
variable {W2 W W':World} {T wb mb rb:Nat} {vq:Value} {vs:List Value} {s:WS}
theorem WaM.vlen (h:WaM W2 W T wb mb rb vq vs s):vs.length=T:=by
 have:=h.fam.len
 simpa [h.ok.rd] using this
theorem WaM.size (h:WaM W2 W T wb mb rb vq vs s):W2.heap.size≤W.heap.size:=h.but.size
theorem WaM.turn (h:WaM W2 W T wb mb rb vq vs s) (hb:Below W.heap.size W W'):WaM W2 W' T wb mb rb vq vs s:=by
 have h1:=h.lt
 have h2:=h.size
 exact⟨h.but.trans (But.of_below hb),h.lt,h.ne,(hb.block _ oq).trans h.box,(hb.block _ oq).trans h.many,(hb.block _ oq).trans h.rds,h.fam.below hb,h.ok⟩
theorem WaM.manyAt (h:WaM W2 W T wb mb rb vq vs s) {t:Nat} (ht:t<T):W.cell? ⟨mb,t,none⟩=some (.int .i64 (s.many.getD t 0))∧W.frozen? ⟨mb,t,none⟩=false:=by
 refine⟨?_,by simp[World.frozen?,h.many]⟩
 rw[Z7 W mb t _ _ (0,0) h.many,List.getElem?_toArray]
 exact ints_at (by rw[h.ok.many];exact ht)
theorem WaM.rdAt (h:WaM W2 W T wb mb rb vq vs s) {t:Nat} (ht:t<T):∃v,vs[t]?=some v∧W.cell? ⟨rb,t,none⟩=some v∧W.frozen? ⟨rb,t,none⟩=false∧QV W W2.heap.size v (s.rd.getD t []):=by
 have h1:t<vs.length:=by rw[h.vlen];exact ht
 have h2:t<s.rd.length:=by rw[h.ok.rd];exact ht
 refine⟨vs[t],Ze h1,?_,by simp[World.frozen?,h.rds],?_⟩
 ·rw[Z7 W rb t _ _ (0,0) h.rds,List.getElem?_toArray,Ze h1]
 have h3:=h.fam.own (t+1) vs[t] (ints (s.rd.getD t [])) (by rw[List.getElem?_cons_succ,Ze h1]) (by rw[List.getElem?_cons_succ,List.getElem?_map,Ze h2,Zf,Ze h2];rfl)
 rw[Ja] at h3
 exact h3
theorem WaM.setMany (h:WaM W2 W T wb mb rb vq vs s) (t:Nat) (x:Int):WaM W2 (W.setCell ⟨mb,t,none⟩ (.int .i64 x)) T wb mb rb vq vs ⟨s.q,s.many.set t x,s.rd⟩:=by
 have hn:=h.ne
 refine⟨h.but.trans (But.set (S:=fun k=>k=mb∨k=rb∨k=wb) (.inl rfl) _),h.lt,h.ne,(Zr _ _ _ _ (fun e=>hn.2.1 e.symm)).trans h.box,?_,(Zr _ _ _ _ (fun e=>hn.1 e.symm)).trans h.rds,h.fam.set h.lt.1 _,⟨h.ok.q,by simp[h.ok.many],h.ok.rd,h.ok.rds⟩⟩
 have:=Zj W mb t (ints s.many).toArray 3 (.int .i64 x) h.many
 rw[zA,ints_set] at this
 exact this
theorem WaM.qm (h:WaM W2 W T wb mb rb vq vs s):QM W wb 0 W2.heap.size vq s.q:=by
 refine⟨?_,by simp[World.frozen?,h.box],?_,h.lt.2.2,h.size⟩
 ·rw[Z7 W wb 0 _ _ (0,0) h.box];rfl
 have:=h.fam.own 0 vq (ints s.q) rfl rfl
 rw[Ja] at this
 exact this
theorem WaM.queue (h:WaM W2 W T wb mb rb vq vs s) {q':List Int} (hp:JS W wb 0 W2.heap.size vq q' W') (hq:∀x∈q',0≤x∧x<(T:Int)):∃vq',WaM W2 W' T wb mb rb vq' vs ⟨q',s.many,s.rd⟩∧(∀k,vq'.ownBlock=some k→vq.ownBlock=some k∨W.heap.size≤k)∧But (fun k=>k=wb∨vq.ownBlock=some k) W W':=by
 obtain⟨vq',arr,t,arr',hqm,hB,hb,h1,h2,h3⟩:=hp
 rw[h.box] at h1
 injection h1 with h1
 injection h1 with h1 h4 _
 subst h1
 subst h4
 have hlt:=h.lt
 have hn:=h.ne
 have hsz:=h.size
 have hob:=JQ h.qm.own
 have hold:∀k,k<W2.heap.size→k≠wb→W'.heap[k]?=W.heap[k]?:=fun k hk hne=>hb.block k oq (fun e=>by
  rcases e with e|e
  ·exact hne e
  have:=(hob k e).1;omega)
 refine⟨vq',⟨h.but.then hb (fun i hi e=>?_),h.lt,h.ne,?_,(hold mb hlt.1 hn.2.1).trans h.many,(hold rb hlt.2.1 hn.2.2).trans h.rds,?_,⟨hq,h.ok.many,h.ok.rd,h.ok.rds⟩⟩,hB,hb⟩
 ·rcases e with e|e
  ·exact .inr (.inr e)
  have:=(hob i e).1;omega
 ·rw[h2,h3,zA]
  rfl
 have ho:W'.ownsRow W2.heap.size 3 1 vq' (ints q').length (ints q'):=by rw[Ja];exact hqm.own
 have hf:=h.fam.put (i:=0) rfl (hb.imp (fun k _ e=>e.elim (fun e=>.inr oq) .inl)) ho hB
 simpa using hf
theorem WaM.other (h:WaM W2 W T wb mb rb vq vs s) {S:Nat→Prop} (hb:But S W W') (hS:∀k,S k→W2.heap.size≤k∧vq.ownBlock≠some k∧∀(i:Nat) (v:Value),vs[i]?=some v→v.ownBlock≠some k):WaM W2 W' T wb mb rb vq vs s:=by
 have hlt:=h.lt
 have hsz:=h.size
 have hold:∀k,k<W2.heap.size→W'.heap[k]?=W.heap[k]?:=fun k hk=>hb.block k oq (fun e=>by have:=(hS k e).1;omega)
 refine⟨h.but.then hb (fun i hi e=>by have:=(hS i e).1;omega),h.lt,h.ne,(hold _ hlt.2.2).trans h.box,(hold _ hlt.1).trans h.many,(hold _ hlt.2.1).trans h.rds,h.fam.but hb (fun i v k hv hk hs=>?_),h.ok⟩
 obtain⟨_,h2,h3⟩:=hS k hs
 cases i with
 | zero =>
  cases hv
  exact h2 hk
 | succ i =>
  rw[List.getElem?_cons_succ] at hv
  exact h3 i v hv hk
theorem WaM.app (h:WaM W2 W T wb mb rb vq vs s) {i t:Nat} (hi:i<T) (ht:t<T) {v v':Value} (hv:vs[i]?=some v) {w4:World} (hb:But (fun k=>v.ownBlock=some k) W w4) (ho:w4.ownsRow W2.heap.size 3 1 v' ((s.rd.getD i []).length+1) (ints (s.rd.getD i [])++[.int .i64 (t:Int)]))
  (hv':∀k,v'.ownBlock=some k→v.ownBlock=some k∨W.heap.size≤k):WaM W2 (w4.setCell ⟨rb,i,none⟩ v') T wb mb rb vq (vs.set i v') ⟨s.q,s.many,addR t s.rd (i:Int)⟩:=by
 have hlt:=h.lt
 have hn:=h.ne
 have hsz:=h.size
 have hbl:∀k,v.ownBlock=some k→W2.heap.size≤k:=fun k hk=>(h.fam.block (i:=i+1) (by rw[List.getElem?_cons_succ];exact hv) k hk).1
 have hold:∀k,k<W2.heap.size→w4.heap[k]?=W.heap[k]?:=fun k hk=>hb.block k oq (fun e=>by have:=hbl k e;omega)
 have hset:=But.set (S:=fun k=>k=mb∨k=rb∨k=wb) (w:=w4) (b:=rb) (o:=i) (.inr (.inl rfl)) v'
 refine⟨(h.but.then hb (fun k hk e=>by have:=hbl k e;omega)).trans hset,h.lt,h.ne,(Zr _ _ _ _ (fun e=>hn.2.2 e.symm)).trans ((hold _ hlt.2.2).trans h.box),(Zr _ _ _ _ hn.1).trans ((hold _ hlt.1).trans h.many),?_,?_,?_⟩
 ·have:=Zj w4 rb i vs.toArray 41 v' ((hold _ hlt.2.1).trans h.rds)
  rw[zA] at this
  exact this
 ·have hf:=h.fam.put (i:=i+1) (by rw[List.getElem?_cons_succ];exact hv) (hb.imp (fun k _ e=>.inl e)) (xs':=ints (s.rd.getD i [])++[.int .i64 (t:Int)]) (by rw[Zx,Ja];exact ho) hv'
  have hf2:=hf.set (b:=rb) (o:=i) hlt.2.1 v'
  rw[List.set_cons_succ,List.set_cons_succ] at hf2
  unfold addR
  rw[ZQ,List.map_set,←Jq]
  exact hf2
 obtain⟨h1,h2⟩:=WOk.addR (x:=(i:Int)) ht h.ok.rd h.ok.rds
 exact⟨h.ok.q,h.ok.many,h1,h2⟩
def RB (c:Nat) (rd:List (List Int)):Prop:=∀r∈rd,r.length≤c
theorem RB.getD {c:Nat} {rd:List (List Int)} (h:RB c rd) (i:Nat):(rd.getD i []).length≤c:=by
 by_cases hi:i<rd.length
 ·rw[Zf,Ze hi]
  exact h _ (Zi hi)
 rw[Zf,Yc oq]
 simp
theorem RB.mono {c d:Nat} {rd:List (List Int)} (h:RB c rd) (hd:c≤d):RB d rd:=fun r hr=>Zm (h r hr) hd
theorem RB.add {c t:Nat} {rd:List (List Int)} (h:RB c rd) (x:Int):RB (c+1) (addR t rd x):=by
 intro r hr
 unfold addR at hr
 rcases Qv hr with hr|rfl
 ·exact Nat.le_succ_of_le (h r hr)
 rw[Zx]
 have:=h.getD x.toNat
 simp only[Zp,Zw]
 omega
theorem RB.adds {t:Nat}:∀(l:List Int) (c:Nat) (rd:List (List Int)),RB c rd→RB (c+l.length) (l.foldl (addR t) rd)
 | [],c,rd,h=>h
 | x::l,c,rd,h=>by
  have:=RB.adds (t:=t) l (c+1) _ (h.add (t:=t) x)
  rw[show c+(x::l).length=c+1+l.length by simp;omega]
  exact this
theorem zz (f:FD) (hh:∀(n:Nat) (d:TD),f.tasks[n]?=some d→(YP f d).length≤1000):∀n,RB (n*1000) (Xb f n).rd
 | 0=>by
  intro r hr
  have:=List.eq_of_mem_replicate (show r∈List.replicate f.tasks.length [] from hr)
  subst this
  simp
 | n+1=>by
  have ih:=zz f hh n
  rw[QZ]
  cases h:f.tasks[n]? with
  | none=>unfold Qx;rw[h];exact ih.mono oq
  | some d =>
   rw[Q9 h]
   exact(RB.adds (YP f d) _ _ ih).mono (by have:=hh n d h;omega)
def MB (c:Nat) (l:List Int):Prop:=∀x∈l,-(c:Int)≤x∧x≤100000
theorem MB.getD {c:Nat} {l:List Int} (h:MB c l) (i:Nat):-(c:Int)≤l.getD i 0∧l.getD i 0≤100000:=by
 by_cases hi:i<l.length
 ·rw[Zf,Ze hi]
  exact h _ (Zi hi)
 rw[Zf,Yc oq]
 simp
theorem MB.mono {c d:Nat} {l:List Int} (h:MB c l) (hd:c≤d):MB d l:=fun x hx=>⟨by have:=(h x hx).1;omega,(h x hx).2⟩
theorem MB.read {c:Nat} {s:WS} (h:MB c s.many) (r:Int):MB (c+1) (Yw s r).many:=by
 intro x hx
 unfold Yw at hx
 rcases Qv hx with hx|rfl
 ·have:=h x hx;omega
 have:=h.getD r.toNat;omega
theorem MB.reads:∀(l:List Int) (c:Nat) (s:WS),MB c s.many→MB (c+l.length) (l.foldl Yw s).many
 | [],c,s,h=>h
 | r::l,c,s,h=>by
  have:=MB.reads l (c+1) _ (h.read r)
  rw[show c+(r::l).length=c+1+l.length by simp;omega]
  exact this
theorem jV (f:FD) (hh:∀(n:Nat) (d:TD),f.tasks[n]?=some d→(YP f d).length≤1000):∀n,MB 0 (Xb f n).many
 | 0=>by
  intro x hx
  have:=List.eq_of_mem_replicate (show x∈List.replicate f.tasks.length (0:Int) from hx)
  subst this
  omega
 | n+1=>by
  have ih:=jV f hh n
  rw[QZ]
  cases h:f.tasks[n]? with
  | none=>unfold Qx;rw[h];exact ih
  | some d =>
   rw[Q9 h]
   intro x hx
   rcases Qv hx with hx|rfl
   ·exact ih x hx
   have:=hh n d h;omega
theorem GY:∀(l:List Int) (s:WS),(l.foldl Yw s).rd=s.rd
 | [],s=>rfl
 | r::l,s=>(GY l (Yw s r)).trans rfl
theorem ZaB (s:WS):(YD s).2.rd=s.rd:=by unfold YD;simp only;rw[GY]
theorem MB.next {c d:Nat} {s:WS} (h:MB c s.many) (hr:RB d s.rd):MB (c+d) (YD s).2.many:=by
 unfold YD
 simp only
 exact(MB.reads _ _ ⟨(X9 s.q).2,s.many,s.rd⟩ h).mono (by have:=hr.getD (X9 s.q).1.toNat;omega)
theorem Zc7 (s:WS):s.q.length≤muW s:=by unfold muW;omega
end Go.Proofs.YtgigilkpndhddaaGreatDoor.syn
