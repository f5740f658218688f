/- Parts of the proof. -/
import Derived.Test.YtlhlcdjiafdoeaaGreatDoorV36
set_option linter.all false
set_option maxRecDepth 100000
set_option maxHeartbeats 16000000
namespace Go.Proofs.YtlhlcdjiafdoeaaGreatDoor.syn
open Go.Shelf Go.RowKit Go.Lib Go.Sort Go.Proofs
def encS (x:SdD):List Value:=[.int .i64 x.t,.int .i64 x.n,.int .i64 x.d,.int .i64 x.v]
def GB (x y:Int):Int:=if x<y then -1 else if y<x then 1 else 0
def cfS (x y:SdD):Int:=if GB x.d y.d=0 then GB x.t y.t else GB x.d y.d
theorem kg (x:SdD):(encS x).length=4:=rfl
theorem kh (x:SdD):∀v∈encS x,v.oneCell'=true:=by
 intro v hv
 simp only[encS,ZQ,List.not_mem_nil,or_false] at hv
 rcases hv with rfl|rfl|rfl|rfl<;>rfl
theorem kJ (x y:SdD):ltOf cfS x y=true↔ltS x y:=by
 unfold ltOf cfS GB ltS
 rw[Yh]
 by_cases h1:x.d<y.d
 ·simp[h1]
 by_cases h2:y.d<x.d
 ·simp[h1,h2]
  omega
 by_cases h3:x.t<y.t
 ·simp[h1,h2,h3]
  omega
 by_cases h4:y.t<x.t
 ·simp[h1,h2,h3,h4]
 simp[h1,h2,h3,h4]
theorem qv (x y:SdD):ltOf cfS x y=false↔¬ltS x y:=by
 rw[←kJ]
 simp
theorem ZcY:SWO (ltOf cfS) where
 irrefl x:=by rw[qv];unfold ltS;omega
 trans x y z h1 h2:=by rw[kJ] at *;unfold ltS at *;omega
 ntrans x y z h1 h2:=by rw[qv] at *;unfold ltS at *;omega
theorem yM {d d':Array SdD} (hp:PermIn 0 d.size d d') (hs:SortedIn (ltOf cfS) 0 d.size d'):d'.toList.Perm d.toList∧d'.toList.Pairwise (fun x y=>¬ltS y x):=by
 obtain⟨hsz,_,hperm⟩:=hp
 have e1:d'.extract 0 d.size=d':=by rw[←hsz];exact Array.extract_size
 rw[e1,Array.extract_size] at hperm
 refine⟨hperm,?_⟩
 rw[List.pairwise_iff_getElem]
 intro i j hi hj hij
 have hi':i<d'.size:=by simpa using hi
 have hj':j<d'.size:=by simpa using hj
 have:=hs i j (Zk _) hij oq
 rw[getElem!_pos d' j hj',getElem!_pos d' i hi'] at this
 simpa using (qv _ _).1 this
theorem Uy (x:Int) (w:World):Calls Tryz.prog 108 #[.int .i64 x] w fun e w'=>e=.returned (.bool false)∧w'=w:=by
 go_enter Tryz.func108,Tryz.ntmps108
 go_wp2
 go_ret
 exact⟨by simp,rfl⟩
theorem E7 (x:Int) (w:World):Calls Tryz.prog 109 #[.int .i64 x] w fun e w'=>e=.returned (.bool false)∧w'=w:=by
 go_enter Tryz.func109,Tryz.ntmps109
 go_wp2
 go_ret
 exact⟨by simp,rfl⟩
theorem xV (x y:Int) (w:World):Calls Tryz.prog 60 #[.int .i64 x,.int .i64 y] w fun e w'=>e=.returned (.int .i64 (GB x y))∧w'=w:=by
 unfold GB
 by_cases h1:x<y
 ·rw[Z0 h1]
  go_enter Tryz.func60,Tryz.ntmps60
  go_wp2_with (go_at_call 108;refine(Uy _ _).mono ?_;rintro e w' ⟨rfl,rfl⟩)
  go_ret
  exact⟨rfl,rfl⟩
 rw[ZZ h1]
 by_cases h2:y<x
 ·rw[Z0 h2]
  go_enter Tryz.func60,Tryz.ntmps60
  go_wp2_with (go_at_call 108;refine(Uy _ _).mono ?_;rintro e w' ⟨rfl,rfl⟩)
  go_ret
  exact⟨rfl,rfl⟩
 rw[ZZ h2]
 go_enter Tryz.func60,Tryz.ntmps60
 go_wp2_with (go_at_call 108;refine(Uy _ _).mono ?_;rintro e w' ⟨rfl,rfl⟩)
 go_ret
 exact⟨rfl,rfl⟩
theorem uX (x y:Int) (w:World):Calls Tryz.prog 61 #[.int .i64 x,.int .i64 y] w fun e w'=>e=.returned (.int .i64 (GB x y))∧w'=w:=by
 unfold GB
 by_cases h1:x<y
 ·rw[Z0 h1]
  go_enter Tryz.func61,Tryz.ntmps61
  go_wp2_with (go_at_call 109;refine(E7 _ _).mono ?_;rintro e w' ⟨rfl,rfl⟩)
  go_ret
  exact⟨rfl,rfl⟩
 rw[ZZ h1]
 by_cases h2:y<x
 ·rw[Z0 h2]
  go_enter Tryz.func61,Tryz.ntmps61
  go_wp2_with (go_at_call 109;refine(E7 _ _).mono ?_;rintro e w' ⟨rfl,rfl⟩)
  go_ret
  exact⟨rfl,rfl⟩
 rw[ZZ h2]
 go_enter Tryz.func61,Tryz.ntmps61
 go_wp2_with (go_at_call 109;refine(E7 _ _).mono ?_;rintro e w' ⟨rfl,rfl⟩)
 go_ret
 exact⟨rfl,rfl⟩
theorem ZbD {b:Nat} (x y:Int) (w:World) (h0:w.cell? ⟨b,0,none⟩=some (.int .i64 x)) (h1:w.cell? ⟨b,1,none⟩=some (.int .i64 y)) :
  Calls Tryz.prog 59 #[.slice (some ⟨b,0,none⟩) 2 2] w fun e w'=>e=.returned (.int .i64 (if x=0 then y else x))∧w'=w:=by
 obtain⟨r,hr⟩:∃r,(if x=0 then y else x)=r:=⟨_,rfl⟩
 rw[hr]
 have HR:=hid hr
 clear hr
 go_enter Tryz.func59,Tryz.ntmps59
 go_wp2
 go_loopw [8] (fun s wr=>Hid (∃i:Nat,s=.int .i64 (i:Int)∧i≤2∧(0<i→x=0)∧(1<i→y=0)∧wr=w)) (fun s _=>2-(intOf s).toNat)
 case atStart=>exact⟨0,rfl,oq,by simp⟩
 obtain⟨i,rfl,hi,hx,hy,rfl⟩:=hrel.out
 clear hrel
 have hc:i=0∨i=1∨i=2:=oq
 have HX:=hid hx
 have HY:=hid hy
 clear hx hy
 rcases hc with rfl|rfl|rfl
 ·by_cases hx0:x=0
  ·have e1:(x != 0)=false:=by rw[hx0];rfl
   go_wp2
   exact⟨hid ⟨1,by go_num,oq,fun _=>hx0,fun h=>oq,by first|rfl|trivial⟩,by simp[intOf]⟩
  have e1:(x != 0)=true:=bne_iff_ne.2 hx0
  have e2:r=x:=by have:=HR.out;rw[ZZ hx0] at this;exact this.symm
  subst e2
  go_wp2
  go_ret
  exact⟨rfl,rfl⟩
 ·have e2:r=y:=by have:=HR.out;rw[Z0 (HX.out oq)] at this;exact this.symm
  subst e2
  by_cases hy0:r=0
  ·have e1:(r != 0)=false:=by rw[hy0];rfl
   go_wp2
   exact⟨hid ⟨2,by go_num,oq,fun _=>HX.out oq,fun _=>hy0,by first|rfl|trivial⟩,by simp[intOf]⟩
  have e1:(r != 0)=true:=bne_iff_ne.2 hy0
  go_wp2
  go_ret
  exact⟨rfl,rfl⟩
 have e2:r=0:=by have:=HR.out;rw[Z0 (HX.out oq),HY.out oq] at this;exact this.symm
 subst e2
 go_wp2
 go_ret
 exact⟨rfl,rfl⟩
def SB (b:Nat) (xt xd yt yd:Int) (w':World):Prop:=w'.cell? ⟨b,0,none⟩=some (.int .i64 xt)∧w'.cell? ⟨b,2,none⟩=some (.int .i64 xd)∧w'.cell? ⟨b+1,0,none⟩=some (.int .i64 yt)∧w'.cell? ⟨b+1,2,none⟩=some (.int .i64 yd)
theorem xP (x y:SdD) (w:World):Calls Tryz.prog 23 #[.agg (encS x).toArray,.agg (encS y).toArray] w fun e w'=>e=.returned (.int .i64 (cfS x y))∧∃q os',w'=grow (w.drewN q) os':=by
 obtain⟨c1,hc1⟩:∃c,GB x.d y.d=c:=⟨_,rfl⟩
 obtain⟨c2,hc2⟩:∃c,GB x.t y.t=c:=⟨_,rfl⟩
 have H1:=hid (fun(W:World)=>xV x.d y.d W)
 have H2:=hid (fun(W:World)=>uX x.t y.t W)
 rw[hc1] at H1
 rw[hc2] at H2
 have HO:=hid (fun(b:Nat) (W:World) h0 h1=>ZbD (b:=b) c1 c2 W h0 h1)
 unfold cfS
 rw[hc1,hc2]
 obtain⟨r,hr⟩:∃r,(if c1=0 then c2 else c1)=r:=⟨_,rfl⟩
 rw[hr] at HO ⊢
 clear hc1 hc2 hr
 unfold encS
 obtain⟨xt,xn,xd,xv⟩:=x
 obtain⟨yt,yn,yd,yv⟩:=y
 simp only at H1 H2 ⊢
 go_enter Tryz.func23,Tryz.ntmps23
 go_upto_region 1 with fail
 obtain⟨W1,hW1⟩:∃W1,(w.alloc (.cells #[.int .i64 xt,.int .i64 xn,.int .i64 xd,.int .i64 xv] 61)).alloc (.cells #[.int .i64 yt,.int .i64 yn,.int .i64 yd,.int .i64 yv] 61)=W1:=⟨_,rfl⟩
 rw[hW1]
 have hgr:W1=grow w #[.cells #[.int .i64 xt,.int .i64 xn,.int .i64 xd,.int .i64 xv] 61,.cells #[.int .i64 yt,.int .i64 yn,.int .i64 yd,.int .i64 yv] 61]:=by rw[←hW1,alloc_eq_grow,alloc_eq_grow,grow_grow];rfl
 have hb0:W1.heap[w.heap.size]?=some (.cells #[.int .i64 xt,.int .i64 xn,.int .i64 xd,.int .i64 xv] 61 (0,0)):=by rw[←hW1];exact(Za _ _ _ (by simp)).trans (Yt w _)
 have hb1:W1.heap[w.heap.size+1]?=some (.cells #[.int .i64 yt,.int .i64 yn,.int .i64 yd,.int .i64 yv] 61 (0,0)):=by rw[←hW1];simpa using Yt (w.alloc _) _
 have hs1:W1.heap.size=w.heap.size+2:=by rw[←hW1];simp
 obtain⟨⟨x0,_,x2,_⟩,_⟩:=Yu hb0
 obtain⟨⟨y0,_,y2,_⟩,_⟩:=Yu hb1
 have KA:=hid (show SB w.heap.size xt xd yt yd W1 from ⟨x0,x2,y0,y2⟩)
 have KB:=hid (fun(o:Obj)=>(show SB w.heap.size xt xd yt yd (W1.drew.alloc o) from by
  have k:=fun b (hb:b<W1.heap.size) o'=>Zn (w:=W1) (w':=W1.drew.alloc o) (a:=⟨b,o',none⟩) (Za W1.drew o b hb)
  exact⟨(k _ oq _).trans x0,(k _ oq _).trans x2,(k _ oq _).trans y0,(k _ oq _).trans y2⟩))
 have KN:=hid (fun(x y:Int)=>show(W1.alloc (.cells #[.int .i64 x,.int .i64 y] 3)).cell? ⟨w.heap.size+2,0,none⟩=some (.int .i64 x)∧(W1.alloc (.cells #[.int .i64 x,.int .i64 y] 3)).cell? ⟨w.heap.size+2,1,none⟩=some (.int .i64 y) by
  have h:=Yt W1 (.cells #[.int .i64 x,.int .i64 y] 3)
  rw[hs1] at h
  simp[World.cell?,h])
 have HG:=hid hgr
 clear hW1 hgr hb0 hb1 x0 x2 y0 y2
 go_region_held3 (fun w'=>w'.cell? ⟨w.heap.size,0,none⟩=some (.int .i64 xt)∧w'.cell? ⟨w.heap.size,2,none⟩=some (.int .i64 xd)∧w'.cell? ⟨w.heap.size+1,0,none⟩=some (.int .i64 yt)∧w'.cell? ⟨w.heap.size+1,2,none⟩=some (.int .i64 yd)) (first|with_reducible exact KA.out|exact KA.out|exact KB.out _) (first
  | (go_at_call 60;refine(H1.out _).mono ?_;rintro e w' ⟨rfl,rfl⟩)
  | (go_at_call 61;refine(H2.out _).mono ?_;rintro e w' ⟨rfl,rfl⟩)
  | (go_at_call 59;refine(HO.out _ _ (by first|exact(KN.out _ _).1|(rw[hs1];exact(KN.out _ _).1)) (by first|exact(KN.out _ _).2|(rw[hs1];exact(KN.out _ _).2))).mono ?_;rintro e w' ⟨rfl,rfl⟩))
 all_goals
  go_wp2
  go_ret
  exact⟨rfl,1,_,by rw[HG.out,alloc_eq_grow,grow_grow];rfl⟩
theorem zI (blk off size:Nat) (w:World):CmpLays Tryz.prog 23 #[] encS 4 cfS blk off size w:=fun m os dk _ x y=>xP x y _
theorem zi (blk off cap:Nat) (d:Array SdD) (w:World) (hH:HoldsK encS 4 w blk off d) (hblk:blk<w.heap.size) (hsz:d.size<4611686018427387904) :
  Calls Tryz.prog 22 #[.slice (some ⟨blk,off,none⟩) d.size cap,.func (.func 23) #[] #[]] w fun e w'=>e=.returned (.tuple #[])∧∃d':Array SdD,(d'.toList.Perm d.toList∧d'.toList.Pairwise (fun x y=>¬ltS y x))∧SWK encS 4 w blk off d' w':=by
 refine(AnyQ.slices_SortFunc Tryz.sortSaid 4 (by intro w;show Sem.run _ (isAgg 61) w=_;go_simp) (by intro w;show Sem.run _ (Go.sizeOf 61) w=_;go_simp) encS kg kh cfS ZcY 23 #[] blk off cap d w (Go.Proofs.enters_of Tryz.func23 kq rfl) (zI _ _ _ _) hH hblk hsz).mono ?_
 rintro e w' ⟨rfl,d',n,os,hp,hs,rfl⟩
 exact⟨rfl,d',yM hp hs,⟨n,os,rfl⟩⟩
theorem ya (p:Option Addr) (cap:Nat) (fv:Value) (w:World):Calls Tryz.prog 98 #[.slice p 0 cap,.int .i64 0,.int .i64 0,fv] w fun e w'=>e=.returned (.tuple #[])∧w'=w:=by
 go_enter Tryz.func98,Tryz.ntmps98
 go_wp2
 refine wp_loop_rounds 1 ?_
 rw[rounds_succ]
 go_wp2
 go_end0
 exact⟨rfl,rfl⟩
theorem yL (p:Option Addr) (cap:Nat) (lim:Int) (fv:Value) (w:World):Calls Tryz.prog 57 #[.slice p 0 cap,.int .i64 0,.int .i64 0,.int .i64 lim,fv] w fun e w'=>e=.returned (.tuple #[])∧w'=w:=by
 go_enter Tryz.func57,Tryz.ntmps57
 go_wp2
 refine wp_loop_rounds 1 ?_
 rw[rounds_succ]
 go_wp2_with (go_at_call 98;refine(ya _ _ _ _).mono ?_;rintro e w' ⟨rfl,rfl⟩)
 (try simp only[Exit.inBlock,Exit.then]);refine Zl (results_none rfl _ _ _) rfl ?_
 exact⟨rfl,rfl⟩
theorem zh (p:Option Addr) (cap:Nat) (w:World):Calls Tryz.prog 22 #[.slice p 0 cap,.func (.func 23) #[] #[]] w fun e w'=>e=.returned (.tuple #[])∧w'=w:=by
 have hl:∀W,Calls Tryz.prog 58 #[.int .u64 0] W fun e w'=>(∃l:Int,e=.returned (.int .i64 l))∧w'=W:=fun W=>(Tryz.bits_Len 0 W oq oq).mono fun _ _ h=>⟨⟨_,h.1⟩,h.2⟩
 go_enter Tryz.func22,Tryz.ntmps22
 go_wp2_with (first|(go_at_call 58;refine(hl _).mono ?_;rintro e w' ⟨⟨l,rfl⟩,rfl⟩)|(go_at_call 57;refine(yL _ _ _ _ _).mono ?_;rintro e w' ⟨rfl,rfl⟩))
 go_end0
 exact⟨rfl,rfl⟩
end Go.Proofs.YtlhlcdjiafdoeaaGreatDoor.syn
