/- Parts of the proof. -/
import Derived.Test.YtdgifkjaflfdeaaGreatDoorV26
import Derived.Test.YtdgifkjaflfdeaaGreatDoorV30
import Derived.Test.YtdgifkjaflfdeaaGreatDoorV33
set_option linter.all false
set_option maxRecDepth 100000
set_option maxHeartbeats 16000000
namespace Go.Proofs.YtdgifkjaflfdeaaGreatDoor.syn
open Tryz
open Go.RowKit
theorem Zax{T:Nat}:∀(n:Nat)(s:WS)(l:List Int),WOk T s→(∀x∈l,0≤x∧x<(T:Int))→(∀x∈Y4 n s l,0≤x∧x<(T:Int))∧(Y4 n s l).length≤l.length+n:=by
 intro n
 induction n with
 | zero=>intro s l _ h;exact⟨h,Zc _⟩
 | succ n ih =>
  intro s l q h;rw[Y4];split
  ·exact⟨h,oq⟩
  rename_i hq
  obtain⟨f,g⟩:=q.next hq;obtain⟨j,m⟩:=ih _ (l++[(YK s).1]) g (fun x hx=>by
   rcases List.mem_append.1 hx with hx|hx
   ·exact h x hx
   rw[List.mem_singleton.1 hx];exact f)
  refine⟨j,?_⟩;rw[Zw,Zp,Zv] at m;omega
theorem ZfL{f:FD}{l:List Int}(h:ofP f=some l):(∀x∈l,0≤x∧x<(f.tasks.length:Int))∧l.length≤2*f.tasks.length:=by
 unfold ofP at h;split at h
 ·cases h
 cases h
 rw[zN];obtain⟨g,j⟩:=Zax (muW (Xg f f.tasks.length)) _ [] (V1 f f.tasks.length (Zc _)) (fun x hx=>by cases hx);refine⟨g,?_⟩;have m:=V2 f f.tasks.length;have q:=(V1 f f.tasks.length (Zc _)).many;have v:=List.countP_le_length (p:=fun x:Int=>decide (0<x)) (l:=(Xg f f.tasks.length).many);have y:muW (Xg f f.tasks.length)≤2*f.tasks.length:=by unfold muW;omega
 have z:([]:List Int).length=0:=rfl;omega
theorem Zen{w:World}{B:Nat}{a:Option Addr}{c n:Nat}{l:List Int}(h:QV w B (.slice a n c) l)(j:∀x∈l,0≤x):n=l.length∧Je w (fun t:Nat=>Value.int .i64 (t:Int)) a (l.map Int.toNat):=by
 have f:w.ownsRow B 3 1 (.slice a n c) l.length (ints l):=h;rcases f.2 with ⟨e,hn⟩|⟨g,cap,cur,e,hb,hg,_⟩
 ·cases e
  rw[Yb hn];exact⟨rfl,.inl rfl⟩
 injection e with e1 e2 e3
 subst e1;subst e2;subst e3;refine⟨rfl,.inr ⟨g,0,rfl,Zb hg,fun i x hx=>?_⟩⟩;rw[ZC];rw[List.getElem?_map,Option.map_eq_some_iff] at hx;obtain⟨y,hy,rfl⟩:=hx;refine(World.ownsRow.cellAt f i (by rw[Z6];exact(Zz.1 hy).1)).trans ?_;have m:=j y (Z8 hy);have e:((y.toNat:Nat):Int)=y:=oq;show _=some (Value.int .i64 ((y.toNat:Nat):Int));rw[e];simp[ints,hy]
theorem Zb4:(prog.info? 54).map (fun i=>(i.zero,i.size,i.bytes))=some (some (.slice none 0 0),1,24):=by kernel_rfl
theorem Ep(u:Int)(w:World):Calls prog 42 #[.int .i64 u] w fun x w'=>x=.returned (.bool (decide (0≤u∧u≤20000)))∧w'=w:=by
 by_cases f:0≤u
 ·by_cases g:u≤20000
  ·rw[ZY (show 0≤u∧u≤20000 from ⟨f,g⟩)];go_enter func42,ntmps42;go_wp2;go_ret;exact⟨rfl,rfl⟩
  rw[ZX (show ¬(0≤u∧u≤20000) from fun h=>g h.2)];go_enter func42,ntmps42;go_wp2;go_ret;exact⟨rfl,rfl⟩
 rw[ZX (show ¬(0≤u∧u≤20000) from fun h=>f h.1)];go_enter func42,ntmps42;go_wp2;go_ret;exact⟨rfl,rfl⟩
theorem EP(ni:Nat)(inl:List (List Int))(nds:List NE)(f:List TD)(order:List Nat)(n:Nat):Y0 ni inl nds f order (n+1)=VL ni inl nds f order (n:Int) (Y0 ni inl nds f order n):=by
 unfold Y0;rw[Yg,List.foldl_append];rfl
theorem Bv.step{ni:Nat}{inl:List (List Int)}{m':Nat}(h1:Bv m' inl){nds:List NE}{tks:List TD}(hn:eA tks)(ho:∀n∈nds,n.ok)(date:Int):∀(order:List Nat)(m:Nat)(vals:List (List Int)),Bv m vals→Bv (m+order.length) (VL ni inl nds tks order date vals)
 | [],m,vals,h=>h
 | t::order,m,vals,h=>by
  have:=Bv.step (ni:=ni) h1 hn ho date order (m+1) _ (Bv.turn h1 h hn ho date t (ni:=ni));rw[Zp,show m+(order.length+1)=m+1+order.length by omega];exact this
def BxS(b:Nat)(v0 v1 v2 v3:Value)(w':World):Prop:=w'.cell? ⟨b,0,none⟩=some v0∧w'.cell? ⟨b,1,none⟩=some v1∧w'.cell? ⟨b,2,none⟩=some v2∧w'.cell? ⟨b,3,none⟩=some v3
structure xJ (w:World) (f:FD) (an:Option Addr) (nds:List NE):Prop where
 row:Row NdE 10 w nds an
 len:nds.length=f.nods.length
 ok:∀n∈nds,n.ok
 nums:eA f.tasks
theorem xJ.below{w w':World}{f:FD}{an:Option Addr}{nds:List NE}(h:xJ w f an nds)(hb:Below w.heap.size w w'):xJ w' f an nds:=⟨h.row.below uy hb,h.len,h.ok,h.nums⟩
theorem zV{f:FD}(h:Y5 f=true){nds:List NE}(F:nds.length=f.nods.length)(q:∀t∈f.tasks,t.args.length≤1000):Zbi f.ins.length nds f.tasks:=by
 unfold Y5 at h;simp only[ZA,List.all_eq_true,Yi] at h;obtain⟨_,_,y,_,E⟩:=h;have key:∀d∈f.tasks,(∃k:Nat,d.node=(k:Int)∧k<nds.length)∧∀a∈d.args,(QD f a.src).isSome=true∧a.ops.length≤20:=by
  intro d hd;have m:=y d hd;by_cases A:d.node<0∨(f.nods.length:Int)≤d.node
  ·rw[V9 A] at m;cases m
  have z:d.node.toNat<f.nods.length:=oq;have x:d.node=(d.node.toNat:Int):=oq;rw[KL z x] at m;simp only[ZA,List.all_eq_true,Yi] at m;refine⟨⟨d.node.toNat,x,oq⟩,fun a q=>?_⟩;have g:=m.2.2 a q;unfold Xw at g
  cases hs:QD f a.src with
  | none=>rw[hs] at g;cases g
  | some s =>
   rw[hs] at g;simp only[ZA,Yi] at g;exact⟨rfl,g.1⟩
 refine⟨oq,fun d hd=>(key d hd).1,fun d hd=>⟨q d hd,fun a q=>?_⟩⟩;obtain⟨j,C⟩:=(key d hd).2 a q;refine⟨?_,?_,oq⟩
 ·by_cases v:a.src<0
  ·rw[xq v] at j;cases j
  omega
 by_cases v:a.src<0
 ·rw[xq v] at j;cases j
 by_cases D:a.src<(f.ins.length:Int)
 ·omega
 have:=Kb j oq;omega
theorem ZaJ{f:FD}(h:Y5 f=true):f.tasks.length≤30:=by
 unfold Y5 at h;simp only[ZA,List.all_eq_true,Yi] at h;exact h.2.2.2.2
def Zfc(w:World)(f:FD)(nds:List NE)(ain:Option Addr)(inl:List (List Int))(l:List Int)(U:Nat)(x:Ending)(w':World):Prop :=
 ∃wI W0 mb vb ai an aT ci cn ct cin cv vs,x=.returned (.tuple #[.pointer (some ⟨mb,0,none⟩),.int .i64 0])∧Below w.heap.size w wI∧StM wI W0 w' mb vb ai an aT f.ins.length ci cn f.nods.length f.tasks ct ain inl cin cv vs (Y0 f.ins.length inl nds f.tasks (l.map Int.toNat) U)∧Bv 2000000 (Y0 f.ins.length inl nds f.tasks (l.map Int.toNat) U)
def Kf(w:World)(f:FD)(nds:List NE)(ain:Option Addr)(inl:List (List Int))(u:Int)(x:Ending)(w':World):Prop :=
 if Y5 f=true∧(0≤u∧u≤20000) then match ofP f with
  | none=>x=.returned (.tuple #[.pointer none,.int .i64 6])
  | some l=>Zfc w f nds ain inl l u.toNat x w'
 else x=.returned (.tuple #[.pointer none,.int .i64 12])
theorem K6{w:World}(f:FD)(D an C V:Option Addr)(H I J cl:Nat)(hf:FAP w f D an C V)(nds:List NE)(hn:xJ w f an nds)(inl:List (List Int))(m:Option Addr)(z:Nat)(aw:Qo w m inl){m':Nat}(av:Bv m' inl)(u:Int) :
  Calls prog 32 #[fv f D an C V H I J cl,.slice m inl.length z,.int .i64 u] w fun x w'=>Kf w f nds m inl u x w'∧Below w.heap.size w w':=by
 have G:=hid (fun W (hb:Below w.heap.size w W)=>zd (w:=W) f D an C V H I J cl (hf.below hb));have q:=hid (fun W (hb:Below w.heap.size w W)=>ZfM (w:=W) f D an C V H I J cl (hf.below hb));have Y:=hid (fun W=>Ep u W);have HF:=hid hf;have HN:=hid hn;have af:=hid (Zh aw av);clear hf hn aw av;unfold Kf;unfold fv at *;obtain⟨ri,T⟩:=ez (Y5 f);obtain⟨ak,aa⟩:∃ak,decide (0≤u∧u≤20000)=ak:=⟨_,rfl⟩;rw[T] at G;rw[aa] at Y;obtain⟨W1,j⟩:=ez (w.alloc (.cells #[.slice D f.ins.length H,.slice an f.nods.length I,.slice C f.tasks.length J,.slice V f.tells.length cl] 35));have hB:Below w.heap.size w W1:=by rw[←j];exact bq
 have ao:W1.heap[w.heap.size]?=some (.cells #[.slice D f.ins.length H,.slice an f.nods.length I,.slice C f.tasks.length J,.slice V f.tells.length cl] 35 (0,0)):=by rw[←j];exact Yw w _
 have bm:W1.heap.size=w.heap.size+1:=by rw[←j];simp
 have HB:=hid hB;have ag:=hid ao;obtain⟨⟨x0,x1,x2,x3⟩,xf⟩:=Yx ao;have ax:w.heap.size<W1.heap.size:=oq;clear hB ao
 cases ri with
 | false =>
  have O:¬(Y5 f=true∧(0≤u∧u≤20000)):=fun h=>by rw[T] at h;cases h.1
  simp only[ZZ O];go_enter func32,ntmps32;go_upto_region 1 with fail
  first|rw[j]|skip
  clear j;go_wp2_with (go_at_call 44;refine(G.out _ HB.out).mono ?_;rintro x w2 ⟨rfl,hb2⟩;have HB2:=hid hb2;clear hb2);go_ret2;exact⟨rfl,HB.out.trans (HB2.out.mono oq)⟩
 | true =>
  cases ak with
  | false =>
   have O:¬(Y5 f=true∧(0≤u∧u≤20000)):=fun h=>by have:=ZY h.2;rw[aa] at this;cases this
   simp only[ZZ O];go_enter func32,ntmps32;go_upto_region 1 with fail
   first|rw[j]|skip
   clear j;go_wp2_with (first|(go_at_call 44;refine(G.out _ HB.out).mono ?_;rintro x w2 ⟨rfl,hb2⟩;have HB2:=hid hb2;clear hb2)|(go_at_call 42;refine(Y.out _).mono ?_;rintro x w3 ⟨rfl,rfl⟩));go_ret2;exact⟨rfl,HB.out.trans (HB2.out.mono oq)⟩
  | true =>
   have hu:=Yh aa;have O:Y5 f=true∧(0≤u∧u≤20000):=⟨T,hu⟩;simp only[Z0 O];clear O
   cases ho:ofP f with
   | none =>
    rw[ho] at q;simp only[Zbc] at q;simp only;go_enter func32,ntmps32;go_upto_region 1 with fail
    first|rw[j]|skip
    clear j;go_wp2_with (first|(go_at_call 44;refine(G.out _ HB.out).mono ?_;rintro x w2 ⟨rfl,hb2⟩;have HB2:=hid (HB.out.trans (hb2.mono oq));obtain⟨⟨y0,y1,y2,y3⟩,yf⟩:=Yx ((hb2.block _ ax).trans ag.out);clear hb2)|(go_at_call 42;refine(Y.out _).mono ?_;rintro x w3 ⟨rfl,rfl⟩)|(go_at_call 45;refine(q.out _ HB2.out).mono ?_;rintro x g ⟨rfl,hb4⟩;have HB4:=hid (HB2.out.trans (hb4.mono HB2.out.size));clear hb4));go_ret2;exact⟨rfl,HB4.out⟩
   | some l =>
    rw[ho] at q;simp only[Zbc] at q;simp only;obtain⟨U,rfl⟩:∃U:Nat,u=(U:Int):=⟨u.toNat,oq⟩;simp only[ZP];have hU:U≤20000:=oq;obtain⟨ay,bj⟩:=ZfL ho;have bh:=ZaJ T;have bb:=hid (zV T HN.out.len (fun t ht=>(HF.out.args t ht).1));have bd:=fun W=>run_make_row' (P:=prog) 28 54 (.slice none 0 0) 24 underlying28 Zb4 rfl .i64 .i64 f.tasks.length oq oq W
    have ar:=hid ay;clear T aa ho ay;go_enter func32,ntmps32;go_upto_region 1 with fail
    first|rw[j]|skip
    clear j;go_upto_region 6 with (first|(go_at_call 44;refine(G.out _ HB.out).mono ?_;rintro x w2 ⟨rfl,hb2⟩;have HB2:=hid (HB.out.trans (hb2.mono oq));have bn:=hb2.size;have ah:=hid ((hb2.block _ ax).trans ag.out);obtain⟨⟨y0,y1,y2,y3⟩,yf⟩:=Yx ah.out;clear hb2)|(go_at_call 42;refine(Y.out _).mono ?_;rintro x w3 ⟨rfl,rfl⟩)|(go_at_call 45;refine(q.out _ HB2.out).mono ?_;rintro x g ⟨⟨v4,rfl,ap⟩,hb4⟩;have HB4:=hid (HB2.out.trans (hb4.mono HB2.out.size));have bo:=hb4.size;obtain⟨a4,c4,rfl⟩:=YG ap;have az:=hid (Zen ap (fun x hx=>(ar.out x hx).1)).2;obtain⟨⟨z0,z1,z2,z3⟩,zf⟩:=Yx ((hb4.block _ oq).trans ah.out);clear hb4 ap))
    clear x0 x1 x2 x3 xf y0 y1 y2 y3 yf G q Y ag ah zf;have d0:g.drew.cell? ⟨w.heap.size,0,none⟩=_:=z0;have d1:g.drew.cell? ⟨w.heap.size,1,none⟩=_:=z1;have d2:g.drew.cell? ⟨w.heap.size,2,none⟩=_:=z2;have d3:g.drew.cell? ⟨w.heap.size,3,none⟩=_:=z3;have R:w.heap.size<g.heap.size:=oq;have KS:=hid (fun(w':World) (h:w'.heap[w.heap.size]?=g.heap[w.heap.size]?)=>(show BxS w.heap.size (.slice D f.ins.length H) (.slice an f.nods.length I) (.slice C f.tasks.length J) (.slice V f.tells.length cl) w' from ⟨(Zn (w:=g) (a:=⟨w.heap.size,0,none⟩) h).trans z0,(Zn (w:=g) (a:=⟨w.heap.size,1,none⟩) h).trans z1,(Zn (w:=g) (a:=⟨w.heap.size,2,none⟩) h).trans z2,(Zn (w:=g) (a:=⟨w.heap.size,3,none⟩) h).trans z3⟩));clear z0 z1 z2 z3;refine ZN (S:=BxS w.heap.size (.slice D f.ins.length H) (.slice an f.nods.length I) (.slice C f.tasks.length J) (.slice V f.tells.length cl)) kq (by first|exact KS.out _ rfl|exact KS.out _ (Za g.drew _ _ R)|exact KS.out _ ((Za _ _ _ (by simp;omega)).trans (Za g.drew _ _ R))) (fun hHeld=>?_);refine tk 0 hHeld ?_;refine tk 1 hHeld ?_;refine tk 2 hHeld ?_;refine tk 3 hHeld ?_;refine tk 4 hHeld ?_;refine ry 5 fun K hK=>?_
    go_simp;refine hK.out _ _ (fun hHeld=>?_) (by first|exact KS.out _ rfl|exact KS.out _ (Za g.drew _ _ R)|exact KS.out _ ((Za _ _ _ (by simp;omega)).trans (Za g.drew _ _ R)));clear hK K;refine tk 6 hHeld ?_;refine ry 7 fun K hK=>?_
    go_simp;refine hK.out _ _ (fun hHeld=>?_) (by first|exact KS.out _ rfl|exact KS.out _ (Za g.drew _ _ R)|exact KS.out _ ((Za _ _ _ (by simp;omega)).trans (Za g.drew _ _ R)));clear hK K;refine tk 8 hHeld ?_;refine Zx kq ?_ _;obtain⟨X,hX⟩:∃X,(g.alloc (.cells (madeCells #[.slice none 0 0] f.tasks.length) 54)).alloc (.cells #[.slice D f.ins.length H,.slice an f.nods.length I,.slice C f.tasks.length J,.slice V f.tells.length cl,.slice m inl.length z,.slice (some ⟨g.heap.size,0,none⟩) f.tasks.length f.tasks.length] 89)=X:=⟨_,rfl⟩;rw[hX];obtain⟨Z,L⟩:=ez X.drew;have aj:=hid (show StM g Z Z (g.heap.size+1) g.heap.size D an C f.ins.length H I f.nods.length f.tasks J m inl z f.tasks.length (List.replicate f.tasks.length (.slice none 0 0)) (Y0 f.ins.length inl nds f.tasks (l.map Int.toNat) 0) from by
     have e0:Y0 f.ins.length inl nds f.tasks (l.map Int.toNat) 0=List.replicate f.tasks.length []:=rfl;have bf:Z.heap[g.heap.size+1]?=some (.cells #[.slice D f.ins.length H,.slice an f.nods.length I,.slice C f.tasks.length J,.slice V f.tells.length cl,.slice m inl.length z,.slice (some ⟨g.heap.size,0,none⟩) f.tasks.length f.tasks.length] 89 (0,0)):=by
      rw[←L];show X.heap[g.heap.size+1]?=_;rw[←hX];have h:=Yw (g.alloc (.cells (madeCells #[.slice none 0 0] f.tasks.length) 54)) (.cells #[.slice D f.ins.length H,.slice an f.nods.length I,.slice C f.tasks.length J,.slice V f.tells.length cl,.slice m inl.length z,.slice (some ⟨g.heap.size,0,none⟩) f.tasks.length f.tasks.length] 89)
      rwa [Zt] at h
     have be:Z.heap[g.heap.size]?=some (.cells (List.replicate f.tasks.length (.slice none 0 0)).toArray 54 (0,0)):=by
      rw[←L,←Va];show X.heap[g.heap.size]?=_;rw[←hX];exact(Za _ _ _ (by simp)).trans (Yw g _)
     have bl:Z.heap.size=g.heap.size+2:=by rw[←L];show X.heap.size=_;rw[←hX];simp
     have hc:∀o v,(#[.slice D f.ins.length H,.slice an f.nods.length I,.slice C f.tasks.length J,.slice V f.tells.length cl,.slice m inl.length z,.slice (some ⟨g.heap.size,0,none⟩) f.tasks.length f.tasks.length]:Array Value)[o]?=some v→Z.cell? ⟨g.heap.size+1,o,none⟩=some v:=fun o v h=>(Z5 Z _ _ _ _ _ bf).trans h
     refine⟨?_,But.refl _ _,⟨oq,oq,oq,oq,oq⟩,hc _ _ rfl,hc _ _ rfl,hc _ _ rfl,hc _ _ rfl,by rw[e0,List.length_replicate];exact hc _ _ rfl,be,?_⟩
     ·rw[←L,←hX];exact(((Zg _ _).alloc (Zc _) _).alloc (by simp) _).drew
     rw[e0,List.map_replicate];exact Fam.nils _ _ _ _)
    have aq:=hid (show Below w.heap.size w Z from HB4.out.trans ((show Below g.heap.size g Z from aj.out.old).mono HB4.out.size));rw[L];clear L hX bd KS hHeld;have am:(l.map Int.toNat).length=l.length:=Zo _;go_wp2;go_loopw [37] (fun s37 wr=>Hid (∃n vs,s37=.int .i64 ((n:Nat):Int)∧n≤U∧Bv (n*60) (Y0 f.ins.length inl nds f.tasks (l.map Int.toNat) n)∧StM g Z wr (g.heap.size+1) g.heap.size D an C f.ins.length H I f.nods.length f.tasks J m inl z f.tasks.length vs (Y0 f.ins.length inl nds f.tasks (l.map Int.toNat) n))) (fun s _=>U-(intOf s).toNat)
    case atStart=>exact⟨0,_,rfl,Zk _,by intro l hl;rw[show Y0 f.ins.length inl nds f.tasks _ 0=List.replicate f.tasks.length [] from rfl] at hl;rw[(List.mem_replicate.1 hl).2];exact⟨by simp,fun x hx=>by cases hx⟩,aj.out⟩
    clear aj;obtain⟨wo,rfl⟩:=ey wr;obtain⟨n,vs,rfl,bk,M,ab⟩:=hrel.out;clear hrel;by_cases bc:n<U
    ·have A:=HN.out.below HB4.out;have F:=ZcX ab (af.out.1.keep HB4.out.block) A.len A.row A.ok ((HF.out.below HB4.out).tasks) bb.out A.nums (zT _ _ _ _ _ _) af.out.2 M oq (l.map Int.toNat) a4 c4 (by rw[am];omega) az.out (fun t ht=>by
      obtain⟨y,hy,rfl⟩:=Yc.1 ht;have:=ar.out y hy;omega) (n:Int)
     rw[am] at F;rw[←EP] at F;have E:=Bv.step af.out.2 A.nums A.ok (n:Int) (l.map Int.toNat) _ _ M (ni:=f.ins.length);rw[←EP,am] at E;have ae:=hid (show Bv ((n+1)*60) (Y0 f.ins.length inl nds f.tasks (l.map Int.toNat) (n+1)) from fun l' hl'=>⟨by have:=(E l' hl').1;omega,(E l' hl').2⟩);have au:=hid F;have i1:(n:Int)<(U:Int):=oq;clear M ab A F E;go_wp2_with (go_at_call 85;refine au.out.mono ?_;rintro y w6 ⟨rfl,bg,ac⟩;have ba:=hid ac;clear ac);exact⟨hid ⟨n+1,bg,by rw[show((n+1:Nat):Int)=(n:Int)+1 by omega],bc,ae.out,ba.out⟩,by show U-((n:Int)+1).toNat<U-(n:Int).toNat;omega⟩
    obtain rfl:n=U:=oq;have bi:¬(n:Int)<(n:Int):=oq;have HS:=hid ab;have ae:=hid (show Bv 2000000 (Y0 f.ins.length inl nds f.tasks (l.map Int.toNat) n) from fun l' hl'=>⟨by have:=(M l' hl').1;omega,(M l' hl').2⟩);clear ab M;go_wp2;go_ret2;refine⟨⟨g,Z,_,_,_,_,_,_,_,_,_,_,_,rfl,HB4.out,HS.out,ae.out⟩,?_⟩;exact aq.out.trans (HS.out.but.below aq.out.size (fun k e=>by have:=HB4.out.size;omega))
def Ji(f:FD)(u:Int):Int:=if Y5 f=true∧(0≤u∧u≤20000) then (match ofP f with|none=>6|some _=>0) else 12
def Jt(f:FD)(nds:List NE)(inl:List (List Int))(u:Int):List (List Int):=Y0 f.ins.length inl nds f.tasks (((ofP f).getD []).map Int.toNat) u.toNat
theorem gN{w w':World}{f:FD}{nds:List NE}{j:Option Addr}{inl:List (List Int)}{u:Int}{x:Ending}(h:Kf w f nds j inl u x w')(g:Ji f u=0):∃wI W0 mb vb ai an aT ci cn ct cin cv vs,x=.returned (.tuple #[.pointer (some ⟨mb,0,none⟩),.int .i64 0])∧Below w.heap.size w wI∧StM wI W0 w' mb vb ai an aT f.ins.length ci cn f.nods.length f.tasks ct j inl cin cv vs (Jt f nds inl u)∧Bv 2000000 (Jt f nds inl u):=by
 unfold Kf at h;unfold Ji at g;unfold Jt;split at h
 ·rename_i hc
  rw[Z0 hc] at g
  cases ho:ofP f with
  | none=>rw[ho] at g;cases g
  | some l=>rw[ho] at h;exact h
 rename_i hc
 rw[ZZ hc] at g
 cases g
theorem ZcE{w w':World}{f:FD}{nds:List NE}{j:Option Addr}{inl:List (List Int)}{u:Int}{x:Ending}(h:Kf w f nds j inl u x w')(g:Ji f u≠0):x=.returned (.tuple #[.pointer none,.int .i64 (Ji f u)]):=by
 unfold Kf at h;unfold Ji at g ⊢;split at h
 ·rename_i hc
  rw[Z0 hc] at g ⊢
  cases ho:ofP f with
  | none=>rw[ho] at h;exact h
  | some l=>rw[ho] at g;exact absurd rfl g
 rename_i hc
 rw[ZZ hc];exact h
theorem ye(f:FD)(nds:List NE)(inl:List (List Int))(u:Int):(Jt f nds inl u).length=f.tasks.length:=zT _ _ _ _ _ _
def vk(f:FD)(nds:List NE)(inl:List (List Int))(u:Int)(x:Ending)(w':World):Prop :=
 (Ji f u=0∧∃ad cap,x=.returned (.tuple #[.slice ad f.tasks.length cap,.int .i64 0])∧Qo w' ad (Jt f nds inl u)∧Bv 2000000 (Jt f nds inl u))∨(Ji f u≠0∧x=.returned (.tuple #[.slice none 0 0,.int .i64 (Ji f u)]))
theorem uU{w:World}(f:FD)(A an z C:Option Addr)(J L M cl:Nat)(hf:FAP w f A an z C)(nds:List NE)(hn:xJ w f an nds)(inl:List (List Int))(y:Option Addr)(D:Nat)(H:Qo w y inl){m':Nat}(E:Bv m' inl)(u:Int) :
  Calls prog 10 #[fv f A an z C J L M cl,.slice y inl.length D,.int .i64 u] w fun x w'=>vk f nds inl u x w'∧Below w.heap.size w w':=by
 have m:=hid (fun W (hb:Below w.heap.size w W)=>K6 (w:=W) f A an z C J L M cl (hf.below hb) nds (hn.below hb) inl y D (H.keep hb.block) E u);clear hf hn H E;unfold fv at *;obtain⟨X,g⟩:=ez (w.alloc (.cells #[.slice A f.ins.length J,.slice an f.nods.length L,.slice z f.tasks.length M,.slice C f.tells.length cl] 35));have hB:Below w.heap.size w X:=by rw[←g];exact bq
 have I:X.heap[w.heap.size]?=some (.cells #[.slice A f.ins.length J,.slice an f.nods.length L,.slice z f.tasks.length M,.slice C f.tells.length cl] 35 (0,0)):=by rw[←g];exact Yw w _
 obtain⟨⟨x0,x1,x2,x3⟩,xf⟩:=Yx I;have HB:=hid hB;clear hB I;obtain⟨Z,j⟩:=ez (Ji f u);by_cases G:Z=0
 ·subst G;have q:=hid (fun W (hb:Below w.heap.size w W)=>(m.out W hb).mono (fun x w' h=>Zh (gN h.1 j) h.2));go_enter func10,ntmps10;go_upto_region 1 with fail
  first|rw[g]|skip
  clear g m;go_wp2_with (go_at_call 32;refine(q.out _ HB.out).mono ?_;rintro x w2 ⟨⟨wI,W0,mb,vb,ab,ac,aa,ae,af,ag,Y,ah,vs,rfl,U,v,F⟩,hb2⟩;have O:=hid F;have HB2:=hid hb2;have m5:=(v.box 5).trans v.c5;rw[ye] at m5;have T:=hid v;clear hb2 v U F);go_ret2;refine⟨Or.inl ⟨j,_,_,rfl,T.out.rows,O.out⟩,HB.out.trans (HB2.out.mono HB.out.size)⟩
 have q:=hid (fun W (hb:Below w.heap.size w W)=>(m.out W hb).mono (fun x w' h=>Zh (ZcE h.1 (by rw[j];exact G)) h.2));rw[j] at q;have aj:(Z != 0)=true:=bne_iff_ne.2 G;have V:=hid j;have R:=hid G;go_enter func10,ntmps10;go_upto_region 1 with fail
 first|rw[g]|skip
 clear g m j G;go_wp2_with (go_at_call 32;refine(q.out _ HB.out).mono ?_;rintro x w2 ⟨rfl,hb2⟩;have HB2:=hid hb2;clear hb2);go_ret2;exact⟨Or.inr ⟨by rw[V.out];exact R.out,by rw[V.out];rfl⟩,HB.out.trans (HB2.out.mono HB.out.size)⟩
def Qp(p f u:Int):Int:=if clock.YD p f=true∧(0≤u∧u≤20000)∧f<u then (u-1-f).tdiv p+1 else 0
theorem EQ{p f:Int}(h:clock.YD p f=true):1≤p∧p≤2000∧0≤f∧f≤2000:=by
 by_cases g:1≤p∧p≤2000∧0≤f∧f≤2000
 ·exact g
 rw[clock.VI g] at h;cases h
theorem Ej(p f u:Int)(w:World):Calls prog 15 #[.agg #[.int .i64 p,.int .i64 f],.int .i64 u] w fun x w'=>x=.returned (.int .i64 (Qp p f u))∧Below w.heap.size w w':=by
 have j:=hid (fun W=>UT p f W);have m:=hid (fun W=>Ep u W);obtain⟨T,v⟩:=ez (clock.YD p f);obtain⟨A,y⟩:∃A,decide (0≤u∧u≤20000)=A:=⟨_,rfl⟩;rw[v] at j;rw[y] at m;obtain⟨H,g⟩:=ez (w.alloc (.cells #[.int .i64 p,.int .i64 f] 50));have I:Below w.heap.size w H:=by rw[←g];exact bq
 have q:H.heap[w.heap.size]?=some (.cells #[.int .i64 p,.int .i64 f] 50 (0,0)):=by rw[←g];exact Yw w _
 have z:=Zb q;obtain⟨⟨x0,x1⟩,xf⟩:=YJ q;have G:=hid q;have HB:=hid I;clear I q
 cases T with
 | false =>
  have e:Qp p f u=0:=by unfold Qp;rw[ZZ (fun h=>by rw[v] at h;cases h.1)]
  rw[e];clear e;go_enter func15,ntmps15;go_upto_region 1 with fail
  first|rw[g]|skip
  clear g;go_wp2_with (go_at_call 41;refine(j.out _).mono ?_;rintro x F ⟨rfl,hb2⟩;have HB2:=hid hb2;clear hb2);go_ret;exact⟨rfl,HB.out.trans (HB2.out.mono HB.out.size)⟩
 | true =>
  obtain⟨p1,p2,f1,f2⟩:=EQ v
  cases A with
  | false =>
   have e:Qp p f u=0:=by unfold Qp;rw[ZZ (fun h=>by have:=ZY h.2.1;rw[y] at this;cases this)]
   rw[e];clear e;go_enter func15,ntmps15;go_upto_region 1 with fail
   first|rw[g]|skip
   clear g;go_wp2_with (first|(go_at_call 41;refine(j.out _).mono ?_;rintro x F ⟨rfl,hb2⟩;have HB2:=hid hb2;clear hb2)|(go_at_call 42;refine(m.out _).mono ?_;rintro x L ⟨rfl,rfl⟩));go_ret;exact⟨rfl,HB.out.trans (HB2.out.mono HB.out.size)⟩
  | true =>
   have R:=Yh y;by_cases J:f<u
   ·have e:Qp p f u=(u-1-f).tdiv p+1:=by unfold Qp;rw[Z0 ⟨v,R,J⟩]
    rw[e];have E:¬u≤f:=oq;have Y:IntKind.i64.wrap (u-1)=u-1:=ZJ _ oq;have Z:IntKind.i64.wrap (u-1-f)=u-1-f:=ZJ _ oq;have hd:(u-1-f).tdiv p=(u-1-f)/p:=Int.tdiv_eq_ediv_of_nonneg oq;have C:0≤(u-1-f)/p:=Int.ediv_nonneg oq oq;have D:(u-1-f)/p≤u-1-f:=Int.ediv_le_self _ oq;have e3:IntKind.i64.wrap ((u-1-f).tdiv p)=(u-1-f).tdiv p:=ZJ _ oq;have e4:IntKind.i64.wrap ((u-1-f).tdiv p+1)=(u-1-f).tdiv p+1:=ZJ _ oq;have M:(p == 0)=false:=by rw[ZW];omega
    have O:¬p=0:=oq;clear e hd C D;go_enter func15,ntmps15;go_upto_region 1 with fail
    first|rw[g]|skip
    clear g;go_wp2_with (first|(go_at_call 41;refine(j.out _).mono ?_;rintro x F ⟨rfl,hb2⟩;have HB2:=hid hb2;obtain⟨⟨U,V⟩,X⟩:=YJ ((hb2.block _ z).trans G.out);clear hb2)|(go_at_call 42;refine(m.out _).mono ?_;rintro x L ⟨rfl,rfl⟩));go_ret;exact⟨rfl,HB.out.trans (HB2.out.mono HB.out.size)⟩
   have e:Qp p f u=0:=by unfold Qp;rw[ZZ (fun h=>J h.2.2)]
   rw[e];have E:u≤f:=oq;clear e;go_enter func15,ntmps15;go_upto_region 1 with fail
   first|rw[g]|skip
   clear g;go_wp2_with (first|(go_at_call 41;refine(j.out _).mono ?_;rintro x F ⟨rfl,hb2⟩;have HB2:=hid hb2;obtain⟨⟨U,V⟩,X⟩:=YJ ((hb2.block _ z).trans G.out);clear hb2)|(go_at_call 42;refine(m.out _).mono ?_;rintro x L ⟨rfl,rfl⟩));go_ret;exact⟨rfl,HB.out.trans (HB2.out.mono HB.out.size)⟩
theorem xS(w:World):Calls prog 7 #[] w fun x w'=>x=.returned (.bool true)∧Below w.heap.size w w':=by
 have f:=hid (fun W=>Ej 10 5 26 W);rw[show Qp 10 5 26=3 from by decide] at f;go_enter func7,ntmps7;go_wp2_with (go_at_call 15;refine(f.out _).mono ?_;rintro x g ⟨rfl,hb2⟩;have HB2:=hid hb2;clear hb2);go_ret;exact⟨rfl,HB2.out⟩
def Zdk(x:Ending):Prop:=∃b,x=.returned (.bool b)
theorem Zab{w:World}(inl:List (List Int))(g:Option Addr)(v:Nat)(j:Qo w g inl):Calls prog 8 #[.slice g inl.length v] w fun x w'=>Zdk x∧w'=w:=by
 have q:=hid j;clear j;go_enter func8,ntmps8;go_wp2;go_loopw [3] (fun s wr=>Hid (∃i:Nat,s=.int .i64 (i:Int)∧i≤50∧wr=w)) (fun s _=>50-(intOf s).toNat)
 case atStart=>exact⟨0,rfl,oq,rfl⟩
 obtain⟨i,rfl,hi,rfl⟩:=hrel.out;clear hrel;by_cases f:i<inl.length
 ·have z:(i:Int)<(inl.length:Int):=oq;have F:(0:Int)≤(i:Int):=oq;by_cases E:i<50
  ·have y:(i:Int)<50:=oq;obtain⟨l,D⟩:∃l,inl[i]?=some l:=⟨_,Ze f⟩;obtain⟨b,o,rfl,hb,C⟩:=q.out.resolve_left (fun e=>by rw[e] at f;simp at f);obtain⟨a,c,c1,_⟩:=C i l D;obtain⟨G,m⟩:=ez l.length;rw[m] at c1;clear C m D;by_cases A:(G:Int) > 1000
   ·go_wp2;go_ret;exact⟨⟨_,rfl⟩,rfl⟩
   go_wp2;exact⟨hid ⟨i+1,by go_num,oq,by first|rfl|trivial⟩,by simp[intOf];omega⟩
  have y:¬(i:Int)<50:=oq;go_wp2;go_ret;exact⟨⟨_,rfl⟩,rfl⟩
 have z:¬(i:Int)<(inl.length:Int):=oq;go_wp2;go_ret;exact⟨⟨_,rfl⟩,rfl⟩
theorem Qo.at{w:World}{g:Option Addr}{f:List (List Int)}(h:Qo w g f){t:Nat}(ht:t<f.length):∃b o a c,g=some ⟨b,o,none⟩∧b<w.heap.size∧w.cell? ⟨b,o+t,none⟩=some (.slice a f[t].length c)∧Je w (Value.int .i64) a f[t]:=by
 obtain⟨b,o,e,hb,q⟩:=h.resolve_left (fun e=>by rw[e] at ht;simp at ht);obtain⟨a,c,j,m⟩:=q t _ (Ze ht);exact⟨b,o,a,c,e,hb,j,m⟩
theorem Je.at{w:World}{f:Option Addr}{l:List Int}(h:Je w (Value.int .i64) f l){t:Nat}(ht:t<l.length):∃b o,f=some ⟨b,o,none⟩∧b<w.heap.size∧w.cell? ⟨b,o+t,none⟩=some (.int .i64 l[t]):=by
 obtain⟨b,o,e,hb,g⟩:=h.resolve_left (fun e=>by rw[e] at ht;simp at ht);exact⟨b,o,e,hb,g t _ (Ze ht)⟩
end Go.Proofs.YtdgifkjaflfdeaaGreatDoor.syn
