/- Parts of the proof. -/
import Derived.Test.YtdgifkjaflfdeaaGreatDoorV36
set_option linter.all false
set_option maxRecDepth 100000
set_option maxHeartbeats 16000000
namespace Go.Proofs.YtdgifkjaflfdeaaGreatDoor.syn
open Tryz
open Go.Shelf Go.RowKit Go.Lib Go.Sort Go.Proofs
def encS(x:SdD):List Value:=[.int .i64 x.t,.int .i64 x.n,.int .i64 x.d,.int .i64 x.v]
def zc(x y:Int):Int:=if x<y then -1 else if y<x then 1 else 0
def cfS(x y:SdD):Int:=if zc x.d y.d=0 then zc x.t y.t else zc x.d y.d
theorem ZbD(x:SdD):(encS x).length=4:=rfl
theorem ZbE(x:SdD):∀v∈encS x,v.oneCell'=true:=by
 intro v f;simp only[encS,ZQ,List.not_mem_nil,or_false] at f;rcases f with rfl|rfl|rfl|rfl<;>rfl
theorem Zb9(x y:SdD):ltOf cfS x y=true↔ltS x y:=by
 unfold ltOf cfS zc ltS;rw[Yi];by_cases f:x.d<y.d
 ·simp[f]
 by_cases g:y.d<x.d
 ·simp[f,g];omega
 by_cases j:x.t<y.t
 ·simp[f,g,j];omega
 by_cases m:y.t<x.t
 ·simp[f,g,j,m]
 simp[f,g,j,m]
theorem uv(x y:SdD):ltOf cfS x y=false↔¬ltS x y:=by
 rw[←Zb9];simp
theorem Zhe:SWO (ltOf cfS) where
 irrefl x:=by rw[uv];unfold ltS;omega
 trans x y z h1 h2:=by rw[Zb9] at *;unfold ltS at *;omega
 ntrans x y z h1 h2:=by rw[uv] at *;unfold ltS at *;omega
theorem jF{d g:Array SdD}(D:PermIn 0 d.size d g)(E:SortedIn (ltOf cfS) 0 d.size g):g.toList.Perm d.toList∧g.toList.Pairwise (fun x y=>¬ltS y x):=by
 obtain⟨z,_,f⟩:=D;have A:g.extract 0 d.size=g:=by rw[←z];exact Array.extract_size
 rw[A,Array.extract_size] at f;refine⟨f,?_⟩;rw[List.pairwise_iff_getElem];intro i j hi C q;have m:i<g.size:=by simpa using hi
 have v:j<g.size:=by simpa using C
 have:=E i j (Zk _) q oq;rw[getElem!_pos g j v,getElem!_pos g i m] at this;simpa using (uv _ _).1 this
theorem Kx(x:Int)(w:World):Calls prog 165 #[.int .i64 x] w fun e w'=>e=.returned (.bool false)∧w'=w:=by
 go_enter func165,ntmps165;go_wp2;go_ret;exact⟨by simp,rfl⟩
theorem yV(x:Int)(w:World):Calls prog 166 #[.int .i64 x] w fun e w'=>e=.returned (.bool false)∧w'=w:=by
 go_enter func166,ntmps166;go_wp2;go_ret;exact⟨by simp,rfl⟩
theorem vQ(x y:Int)(w:World):Calls prog 93 #[.int .i64 x,.int .i64 y] w fun e w'=>e=.returned (.int .i64 (zc x y))∧w'=w:=by
 unfold zc;by_cases f:x<y
 ·rw[Z0 f];go_enter func93,ntmps93;go_wp2_with (go_at_call 165;refine(Kx _ _).mono ?_;rintro e w' ⟨rfl,rfl⟩);go_ret;exact⟨rfl,rfl⟩
 rw[ZZ f];by_cases g:y<x
 ·rw[Z0 g];go_enter func93,ntmps93;go_wp2_with (go_at_call 165;refine(Kx _ _).mono ?_;rintro e w' ⟨rfl,rfl⟩);go_ret;exact⟨rfl,rfl⟩
 rw[ZZ g];go_enter func93,ntmps93;go_wp2_with (go_at_call 165;refine(Kx _ _).mono ?_;rintro e w' ⟨rfl,rfl⟩);go_ret;exact⟨rfl,rfl⟩
theorem Zbw(x y:Int)(w:World):Calls prog 94 #[.int .i64 x,.int .i64 y] w fun e w'=>e=.returned (.int .i64 (zc x y))∧w'=w:=by
 unfold zc;by_cases f:x<y
 ·rw[Z0 f];go_enter func94,ntmps94;go_wp2_with (go_at_call 166;refine(yV _ _).mono ?_;rintro e w' ⟨rfl,rfl⟩);go_ret;exact⟨rfl,rfl⟩
 rw[ZZ f];by_cases g:y<x
 ·rw[Z0 g];go_enter func94,ntmps94;go_wp2_with (go_at_call 166;refine(yV _ _).mono ?_;rintro e w' ⟨rfl,rfl⟩);go_ret;exact⟨rfl,rfl⟩
 rw[ZZ g];go_enter func94,ntmps94;go_wp2_with (go_at_call 166;refine(yV _ _).mono ?_;rintro e w' ⟨rfl,rfl⟩);go_ret;exact⟨rfl,rfl⟩
theorem ZfP{b:Nat}(x y:Int)(w:World)(E:w.cell? ⟨b,0,none⟩=some (.int .i64 x))(F:w.cell? ⟨b,1,none⟩=some (.int .i64 y)) :
  Calls prog 92 #[.slice (some ⟨b,0,none⟩) 2 2] w fun e w'=>e=.returned (.int .i64 (if x=0 then y else x))∧w'=w:=by
 obtain⟨r,z⟩:=ez ((if x=0 then y else x));rw[z];have m:=hid z;clear z;go_enter func92,ntmps92;go_wp2;go_loopw [8] (fun s wr=>Hid (∃i:Nat,s=.int .i64 (i:Int)∧i≤2∧(0<i→x=0)∧(1<i→y=0)∧wr=w)) (fun s _=>2-(intOf s).toNat)
 case atStart=>exact⟨0,rfl,oq,by simp⟩
 obtain⟨i,rfl,hi,A,hy,rfl⟩:=hrel.out;clear hrel;have D:i=0∨i=1∨i=2:=oq;have q:=hid A;have C:=hid hy;clear A hy;rcases D with rfl|rfl|rfl
 ·by_cases f:x=0
  ·have v:(x != 0)=false:=by rw[f];rfl
   go_wp2;exact⟨hid ⟨1,by go_num,oq,fun _=>f,fun h=>oq,by first|rfl|trivial⟩,by simp[intOf]⟩
  have v:(x != 0)=true:=bne_iff_ne.2 f;have j:r=x:=by have:=m.out;rw[ZZ f] at this;exact this.symm
  subst j;go_wp2;go_ret;exact⟨rfl,rfl⟩
 ·have j:r=y:=by have:=m.out;rw[Z0 (q.out oq)] at this;exact this.symm
  subst j;by_cases g:r=0
  ·have v:(r != 0)=false:=by rw[g];rfl
   go_wp2;exact⟨hid ⟨2,by go_num,oq,fun _=>q.out oq,fun _=>g,by first|rfl|trivial⟩,by simp[intOf]⟩
  have v:(r != 0)=true:=bne_iff_ne.2 g;go_wp2;go_ret;exact⟨rfl,rfl⟩
 have j:r=0:=by have:=m.out;rw[Z0 (q.out oq),C.out oq] at this;exact this.symm
 subst j;go_wp2;go_ret;exact⟨rfl,rfl⟩
def SB(b:Nat)(xt xd yt yd:Int)(w':World):Prop:=w'.cell? ⟨b,0,none⟩=some (.int .i64 xt)∧w'.cell? ⟨b,2,none⟩=some (.int .i64 xd)∧w'.cell? ⟨b+1,0,none⟩=some (.int .i64 yt)∧w'.cell? ⟨b+1,2,none⟩=some (.int .i64 yd)
theorem vG(x y:SdD)(w:World):Calls prog 36 #[.agg (encS x).toArray,.agg (encS y).toArray] w fun e w'=>e=.returned (.int .i64 (cfS x y))∧∃q os',w'=grow (w.drewN q) os':=by
 obtain⟨c1,j⟩:=ez (zc x.d y.d);obtain⟨c2,m⟩:=ez (zc x.t y.t);have H:=hid (fun(W:World)=>vQ x.d y.d W);have I:=hid (fun(W:World)=>Zbw x.t y.t W);rw[j] at H;rw[m] at I;have X:=hid (fun(b:Nat) (W:World) h0 h1=>ZfP (b:=b) c1 c2 W h0 h1);unfold cfS;rw[j,m];obtain⟨r,Y⟩:=ez ((if c1=0 then c2 else c1));rw[Y] at X ⊢;clear j m Y;unfold encS;obtain⟨A,M,z,O⟩:=x;obtain⟨D,U,C,V⟩:=y;simp only at H I ⊢;go_enter func36,ntmps36;go_upto_region 1 with fail
 obtain⟨f,g⟩:=ez ((w.alloc (.cells #[.int .i64 A,.int .i64 M,.int .i64 z,.int .i64 O] 97)).alloc (.cells #[.int .i64 D,.int .i64 U,.int .i64 C,.int .i64 V] 97));rw[g];have F:f=grow w #[.cells #[.int .i64 A,.int .i64 M,.int .i64 z,.int .i64 O] 97,.cells #[.int .i64 D,.int .i64 U,.int .i64 C,.int .i64 V] 97]:=by rw[←g,alloc_eq_grow,alloc_eq_grow,grow_grow];rfl
 have E:f.heap[w.heap.size]?=some (.cells #[.int .i64 A,.int .i64 M,.int .i64 z,.int .i64 O] 97 (0,0)):=by rw[←g];exact(Za _ _ _ (by simp)).trans (Yw w _)
 have hb1:f.heap[w.heap.size+1]?=some (.cells #[.int .i64 D,.int .i64 U,.int .i64 C,.int .i64 V] 97 (0,0)):=by rw[←g];simpa using Yw (w.alloc _) _
 have v:f.heap.size=w.heap.size+2:=by rw[←g];simp
 obtain⟨⟨J,_,L,_⟩,_⟩:=Yx E;obtain⟨⟨R,_,T,_⟩,_⟩:=Yx hb1;have KA:=hid (show SB w.heap.size A z D C f from ⟨J,L,R,T⟩);have KB:=hid (fun(o:Obj)=>(show SB w.heap.size A z D C (f.drew.alloc o) from by
  have k:=fun b (hb:b<f.heap.size) o'=>Zn (w:=f) (w':=f.drew.alloc o) (a:=⟨b,o',none⟩) (Za f.drew o b hb)
  exact⟨(k _ oq _).trans J,(k _ oq _).trans L,(k _ oq _).trans R,(k _ oq _).trans T⟩))
 have G:=hid (fun(x y:Int)=>show(f.alloc (.cells #[.int .i64 x,.int .i64 y] 3)).cell? ⟨w.heap.size+2,0,none⟩=some (.int .i64 x)∧(f.alloc (.cells #[.int .i64 x,.int .i64 y] 3)).cell? ⟨w.heap.size+2,1,none⟩=some (.int .i64 y) by
  have h:=Yw f (.cells #[.int .i64 x,.int .i64 y] 3);rw[v] at h;simp[World.cell?,h])
 have Z:=hid F;clear g F E hb1 J L R T;go_region_held3 (fun w'=>w'.cell? ⟨w.heap.size,0,none⟩=some (.int .i64 A)∧w'.cell? ⟨w.heap.size,2,none⟩=some (.int .i64 z)∧w'.cell? ⟨w.heap.size+1,0,none⟩=some (.int .i64 D)∧w'.cell? ⟨w.heap.size+1,2,none⟩=some (.int .i64 C)) (first|with_reducible exact KA.out|exact KA.out|exact KB.out _) (first
  | (go_at_call 93;refine(H.out _).mono ?_;rintro e w' ⟨rfl,rfl⟩)
  | (go_at_call 94;refine(I.out _).mono ?_;rintro e w' ⟨rfl,rfl⟩)
  | (go_at_call 92;refine(X.out _ _ (by first|exact(G.out _ _).1|(rw[v];exact(G.out _ _).1)) (by first|exact(G.out _ _).2|(rw[v];exact(G.out _ _).2))).mono ?_;rintro e w' ⟨rfl,rfl⟩))
 all_goals
  go_wp2;go_ret;exact⟨rfl,1,_,by rw[Z.out,alloc_eq_grow,grow_grow];rfl⟩
theorem xV(blk off size:Nat)(w:World):CmpLays prog 36 #[] encS 4 cfS blk off size w:=fun m os dk _ x y=>vG x y _
theorem xn(f off cap:Nat)(d:Array SdD)(w:World)(m:HoldsK encS 4 w f off d)(g:f<w.heap.size)(j:d.size<4611686018427387904) :
  Calls prog 35 #[.slice (some ⟨f,off,none⟩) d.size cap,.func (.func 36) #[] #[]] w fun e w'=>e=.returned (.tuple #[])∧∃d':Array SdD,(d'.toList.Perm d.toList∧d'.toList.Pairwise (fun x y=>¬ltS y x))∧SWK encS 4 w f off d' w':=by
 refine(AnyQ.slices_SortFunc Tryz.sortSaid 4 (by intro w;show Sem.run _ (isAgg 97) w=_;go_simp) (by intro w;show Sem.run _ (Go.sizeOf 97) w=_;go_simp) encS ZbD ZbE cfS Zhe 36 #[] f off cap d w (Go.Proofs.enters_of func36 kq rfl) (xV _ _ _ _) m g j).mono ?_;rintro e w' ⟨rfl,d',n,os,q,v,rfl⟩;exact⟨rfl,d',jF q v,⟨n,os,rfl⟩⟩
theorem qw(p:Option Addr)(cap:Nat)(fv:Value)(w:World):Calls prog 155 #[.slice p 0 cap,.int .i64 0,.int .i64 0,fv] w fun e w'=>e=.returned (.tuple #[])∧w'=w:=by
 go_enter func155,ntmps155;go_wp2;refine wp_loop_rounds 1 ?_;rw[rounds_succ];go_wp2;go_end0;exact⟨rfl,rfl⟩
theorem jE(p:Option Addr)(cap:Nat)(f:Int)(fv:Value)(w:World):Calls prog 90 #[.slice p 0 cap,.int .i64 0,.int .i64 0,.int .i64 f,fv] w fun e w'=>e=.returned (.tuple #[])∧w'=w:=by
 go_enter func90,ntmps90;go_wp2;refine wp_loop_rounds 1 ?_;rw[rounds_succ];go_wp2_with (go_at_call 155;refine(qw _ _ _ _).mono ?_;rintro e w' ⟨rfl,rfl⟩)
 (try simp only[Exit.inBlock,Exit.then]);refine Zl (results_none rfl _ _ _) rfl ?_
 exact⟨rfl,rfl⟩
theorem xm(p:Option Addr)(cap:Nat)(w:World):Calls prog 35 #[.slice p 0 cap,.func (.func 36) #[] #[]] w fun e w'=>e=.returned (.tuple #[])∧w'=w:=by
 have f:∀W,Calls prog 91 #[.int .u64 0] W fun e w'=>(∃l:Int,e=.returned (.int .i64 l))∧w'=W:=fun W=>(Tryz.bits_Len 0 W oq oq).mono fun _ _ h=>⟨⟨_,h.1⟩,h.2⟩
 go_enter func35,ntmps35;go_wp2_with (first|(go_at_call 91;refine(f _).mono ?_;rintro e w' ⟨⟨l,rfl⟩,rfl⟩)|(go_at_call 90;refine(jE _ _ _ _ _).mono ?_;rintro e w' ⟨rfl,rfl⟩));go_end0;exact⟨rfl,rfl⟩
end Go.Proofs.YtdgifkjaflfdeaaGreatDoor.syn
