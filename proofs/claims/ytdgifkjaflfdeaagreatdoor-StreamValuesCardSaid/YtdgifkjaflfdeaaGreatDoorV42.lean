/- Parts of the proof. -/
import Derived.Test.YtdgifkjaflfdeaaGreatDoorV40
import Derived.Test.YtdgifkjaflfdeaaGreatDoorV41
set_option linter.all false
set_option maxRecDepth 100000
set_option maxHeartbeats 16000000
namespace Go.Proofs.YtdgifkjaflfdeaaGreatDoor.syn
open Tryz
open Go.RowKit
theorem Gc{W:World}{C D s1 s2 G H:Nat}{x y:TypeId}{z A:Value}{q v:List Value}(E:W.ownsRow C x s1 z G q)(F:W.ownsRow D y s2 A H v)(m:x≠y):∀k,z.ownBlock=some k→¬A.ownBlock=some k:=by
 intro k f j;rcases E.2 with ⟨rfl,_⟩|⟨g,cap,cur,rfl,_,hg,_⟩
 ·cases f
 rcases F.2 with ⟨rfl,_⟩|⟨g2,cap2,cur2,rfl,_,hg2,_⟩
 ·cases j
 injection f with f
 injection j with j
 subst f;subst j;rw[hg] at hg2;injection hg2 with hg2
 injection hg2 with _ h3 _
 exact m h3
def X9(l:List Bool):List Value:=l.map (fun b=>.bool b)
theorem VT(l:List Bool):(X9 l).length=l.length:=by simp[X9]
theorem Zbv{l:List Bool}{i:Nat}(h:i<l.length):(X9 l)[i]?=some (.bool (l.getD i false)):=by
 unfold X9;rw[List.getElem?_map,Ze h,Zf,Ze h];rfl
theorem eN(l:List Bool)(i:Nat)(x:Bool):(X9 l).set i (.bool x)=X9 (l.set i x):=by unfold X9;rw[List.map_set]
structure Jv (w:World) (B E mb:Nat) (vv kk:Value) (vs ks:List Value) (V:List (List Int)) (K:List (List Bool)):Prop where
 mbB:B≤mb∧mb<E
 hi:E≤w.heap.size
 box:w.heap[mb]?=some (.cells #[vv,kk] 104 (0,0))
 ownV:w.ownsRow B 54 1 vv V.length vs
 ownK:w.ownsRow B 105 1 kk K.length ks
 famV:Fam w B 2 vs (V.map ints)
 famK:Fam w B 4 ks (K.map X9)
 topV:∀k,vv.ownBlock=some k→k<E
 topK:∀k,kk.ownBlock=some k→k<E
 toV:∀v∈vs,∀k,v.ownBlock=some k→k<E
 toK:∀v∈ks,∀k,v.ownBlock=some k→k<E
 sV:∀l∈V,l.length=400
 sK:∀l∈K,l.length=400
def Vr(B E k:Nat):Prop:=B≤k∧k<E
theorem Jv.keep{w w':World}{B E mb:Nat}{vv kk:Value}{vs ks:List Value}{V:List (List Int)}{K:List (List Bool)}(h:Jv w B E mb vv kk vs ks V K)(hb:Below w.heap.size w w'):Jv w' B E mb vv kk vs ks V K :=
 ⟨h.mbB,Zm h.hi hb.size,(hb.block mb (Zb h.box)).trans h.box,own_below h.ownV hb,own_below h.ownK hb,h.famV.below hb,h.famK.below hb,h.topV,h.topK,h.toV,h.toK,h.sV,h.sK⟩
theorem Jv.but{w w':World}{B E mb:Nat}{vv kk:Value}{vs ks:List Value}{V:List (List Int)}{K:List (List Bool)}(h:Jv w B E mb vv kk vs ks V K){S:Nat→Prop}(hb:But S w w')(hS:∀k,S k→¬Vr B E k):Jv w' B E mb vv kk vs ks V K :=
 ⟨h.mbB,Zm h.hi hb.size,(hb.block mb (Zb h.box) (fun e=>hS _ e h.mbB)).trans h.box,hb.own h.ownV (fun k hk e=>hS k e ⟨YW h.ownV k hk,h.topV k hk⟩),hb.own h.ownK (fun k hk e=>hS k e ⟨YW h.ownK k hk,h.topK k hk⟩),
  h.famV.but hb (fun i v k hv hk e=>hS k e ⟨(h.famV.block hv k hk).1,h.toV v (Z8 hv) k hk⟩),h.famK.but hb (fun i v k hv hk e=>hS k e ⟨(h.famK.block hv k hk).1,h.toK v (Z8 hv) k hk⟩),h.topV,h.topK,h.toV,h.toK,h.sV,h.sK⟩
structure ZeM (w:World) (B E mb:Nat) (vv kk:Value) (vs ks:List Value) (T t n:Nat) (x:Int) (b:Bool) (gv cv gk ck g c g' c':Nat):Prop where
 v:vv=.slice (some ⟨gv,0,none⟩) T cv
 k:kk=.slice (some ⟨gk,0,none⟩) T ck
 vr:w.cell? ⟨gv,t,none⟩=some (.slice (some ⟨g,0,none⟩) 400 c)
 kr:w.cell? ⟨gk,t,none⟩=some (.slice (some ⟨g',0,none⟩) 400 c')
 vc:w.cell? ⟨g,n,none⟩=some (.int .i64 x)
 kc:w.cell? ⟨g',n,none⟩=some (.bool b)
 fv:w.frozen? ⟨g,n,none⟩=false
 fk:w.frozen? ⟨g',n,none⟩=false
 ts:vs[t]?=some (.slice (some ⟨g,0,none⟩) 400 c)∧ks[t]?=some (.slice (some ⟨g',0,none⟩) 400 c')
 lo:B≤g∧g<E∧B≤g'∧g'<E∧gv<E∧gk<E
 ne:gv≠g∧gk≠g∧gv≠g'∧gk≠g'∧mb≠g∧mb≠g'∧g≠g'
theorem Jv.at_{w:World}{B E mb:Nat}{U M:Value}{vs z:List Value}{V:List (List Int)}{K:List (List Bool)}(h:Jv w B E mb U M vs z V K)(G:K.length=V.length){t n:Nat}(ht:t<V.length)(hn:n<400) :
  ∃gv cv gk ck g c g' c',ZeM w B E mb U M vs z V.length t n ((V.getD t []).getD n 0) ((K.getD t []).getD n false) gv cv gk ck g c g' c':=by
 have l1:vs.length=V.length:=by rw[h.famV.len,Zo]
 have l2:z.length=K.length:=by rw[h.famK.len,Zo]
 have T:t<K.length:=oq;obtain⟨v,y⟩:∃v,vs[t]?=some v:=⟨_,Ze oq⟩;obtain⟨u,x⟩:∃u,z[t]?=some u:=⟨_,Ze oq⟩;have L:=Ze ht;have hK:=Ze T;have Z:=h.sV _ (Zi ht);have Y:=h.sK _ (Zi T);have J:=h.famV.own t v (ints V[t]) y (by rw[List.getElem?_map,L];rfl);have I:=h.famK.own t u (X9 K[t]) x (by rw[List.getElem?_map,hK];rfl);rw[X1,Z] at J;rw[VT,Y] at I;have m:=J;have j:=I;have R:=h.ownV;have O:=h.ownK;rcases J.2 with ⟨_,hz⟩|⟨g,c,cur,rfl,hb,hg,_⟩
 ·omega
 rcases I.2 with ⟨_,hz⟩|⟨g',c',cur',rfl,hb',hg',_⟩
 ·omega
 rcases R.2 with ⟨_,hz⟩|⟨gv,cv,curv,rfl,hbv,hgv,_⟩
 ·omega
 rcases O.2 with ⟨_,hz⟩|⟨gk,ck,curk,rfl,hbk,hgk,_⟩
 ·omega
 have f:∀{A C:Nat}{c1 c2:Array Value}{D F:TypeId},w.heap[A]?=some (.cells c1 D (0,0))→w.heap[C]?=some (.cells c2 F (0,0))→D≠F→A≠C:=by
  intro A C c1 c2 D F X q H e;subst e;rw[X] at q;injection q with q
  injection q with _ h3 _
  exact H h3
 refine⟨gv,cv,gk,ck,g,c,g',c',rfl,by rw[G],?_,?_,?_,?_,World.ownsRow.frozenAt m n,World.ownsRow.frozenAt j n,⟨y,x⟩,⟨hb,h.toV _ (Z8 y) g rfl,hb',h.toK _ (Z8 x) g' rfl,h.topV gv rfl,h.topK gk rfl⟩,
  f hgv hg (by decide),f hgk hg (by decide),f hgv hg' (by decide),f hgk hg' (by decide),f h.box hg (by decide),f h.box hg' (by decide),f hg hg' (by decide)⟩
 ·exact(World.ownsRow.cellAt R t oq).trans y
 ·exact(World.ownsRow.cellAt O t oq).trans x
 ·rw[show V.getD t []=V[t] by rw[Zf,L];rfl];exact(World.ownsRow.cellAt m n oq).trans (ints_at oq)
 rw[show K.getD t []=K[t] by rw[Zf,hK];rfl];exact(World.ownsRow.cellAt j n oq).trans (Zbv oq)
theorem Jv.put{w:World}{B E mb:Nat}{U J:Value}{vs z:List Value}{V:List (List Int)}{K:List (List Bool)}(h:Jv w B E mb U J vs z V K)(aa:K.length=V.length){t n:Nat}(ht:t<V.length)(hn:n<400){x0:Int}{b0:Bool}{gv cv gk ck g c m I:Nat}
  (f:ZeM w B E mb U J vs z V.length t n x0 b0 gv cv gk ck g c m I)(x:Int) :
  Jv ((w.setCell ⟨g,n,none⟩ (.int .i64 x)).setCell ⟨m,n,none⟩ (.bool true)) B E mb U J vs z (V.set t ((V.getD t []).set n x)) (K.set t ((K.getD t []).set n true)):=by
 obtain⟨H,q⟩:=ez (w.setCell ⟨g,n,none⟩ (.int .i64 x));obtain⟨X,y⟩:=ez (H.setCell ⟨m,n,none⟩ (.bool true));rw[q,y];have j:But (fun k=>k=g) w H:=by rw[←q];exact But.set (S:=fun k=>k=g) rfl _
 have A:But (fun k=>k=m) H X:=by rw[←y];exact But.set (S:=fun k=>k=m) rfl _
 obtain⟨n1,n2,n3,n4,n5,n6,n7⟩:=f.ne;have G:∀{a c:Nat}{T:Nat}(k:Nat),(Value.slice (some ⟨a,0,none⟩) T c).ownBlock=some k→k=a:=fun k hk=>by injection hk with hk;exact hk.symm
 have t2:t<K.length:=oq;have hV:=Ze ht;have hK:=Ze t2;have Z:V.getD t []=V[t]:=by rw[Zf,hV];rfl
 have Y:K.getD t []=K[t]:=by rw[Zf,hK];rfl
 have R:=h.sV _ (Zi ht);have O:=h.sK _ (Zi t2);have M:=h.famV.own t _ (ints V[t]) f.ts.1 (by rw[List.getElem?_map,hV];rfl);have oK:=h.famK.own t _ (X9 K[t]) f.ts.2 (by rw[List.getElem?_map,hK];rfl);rw[X1,R] at M;rw[VT,O] at oK;have o1:=V3 M n (.int .i64 x) hn;rw[q,ints_set] at o1;have f1:Fam H B 2 vs ((V.set t (V[t].set n x)).map ints):=by
  have:=h.famV.put f.ts.1 (v':=.slice (some ⟨g,0,none⟩) 400 c) (xs':=ints (V[t].set n x)) (j.imp (fun k _ e=>.inl (by rw[e];rfl))) (by rw[X1,List.length_set,R];exact o1) (fun k hk=>.inl hk);rw[List.map_set]
  rwa [show vs.set t (.slice (some ⟨g,0,none⟩) 400 c)=vs from by
   apply List.ext_getElem?;intro i;rw[List.getElem?_set];split
   ·rename_i e
    subst e;rw[Z0 (Zz.1 f.ts.1).1,f.ts.1]
   rfl] at this
 have k1:Fam H B 4 z (K.map X9):=h.famK.but j (fun i v k hv hk e=>by
  subst e;have hi:i<K.length:=by have:=(Zz.1 hv).1;have L:=h.famK.len;rw[Zo] at L;omega
  exact Gc (h.famK.own i v (X9 K[i]) hv (by rw[List.getElem?_map,Ze hi];rfl)) M (by decide) _ hk rfl)
 have F:=j.own oK (fun k hk e=>by rw[e] at hk;exact n7 (G _ hk));have o2:=V3 F n (.bool true) hn;rw[y,eN] at o2;have k2:Fam X B 4 z ((K.set t (K[t].set n true)).map X9):=by
  have:=k1.put f.ts.2 (v':=.slice (some ⟨m,0,none⟩) 400 I) (xs':=X9 (K[t].set n true)) (A.imp (fun k _ e=>.inl (by rw[e];rfl))) (by rw[VT,List.length_set,O];exact o2) (fun k hk=>.inl hk);rw[List.map_set]
  rwa [show z.set t (.slice (some ⟨m,0,none⟩) 400 I)=z from by
   apply List.ext_getElem?;intro i;rw[List.getElem?_set];split
   ·rename_i e
    subst e;rw[Z0 (Zz.1 f.ts.2).1,f.ts.2]
   rfl] at this
 have f2:Fam X B 2 vs ((V.set t (V[t].set n x)).map ints):=f1.but A (fun i v k hv hk e=>by
  subst e;have hi:i<(V.set t (V[t].set n x)).length:=by have:=(Zz.1 hv).1;have L:=f1.len;rw[Zo] at L;omega
  exact Gc (f1.own i v (ints (V.set t (V[t].set n x))[i]) hv (by rw[List.getElem?_map,Ze hi];rfl)) F (by decide) _ hk rfl)
 have C:=f.k;have D:=f.v;refine⟨h.mbB,Zm h.hi (Zm j.size A.size),?_,?_,?_,by rw[Z];exact f2,by rw[Y];exact k2,h.topV,h.topK,h.toV,h.toK,fun l hl=>?_,fun l hl=>?_⟩
 ·have:=Zb h.box;exact(A.block mb (Zd this j.size) n6).trans ((j.block mb this n5).trans h.box)
 ·rw[List.length_set];exact A.own (j.own h.ownV (fun k hk e=>by rw[D] at hk;rw[e] at hk;exact n1 (G _ hk).symm)) (fun k hk e=>by rw[D] at hk;rw[e] at hk;exact n3 (G _ hk).symm)
 ·rw[List.length_set];exact A.own (j.own h.ownK (fun k hk e=>by rw[C] at hk;rw[e] at hk;exact n2 (G _ hk).symm)) (fun k hk e=>by rw[C] at hk;rw[e] at hk;exact n4 (G _ hk).symm)
 ·rcases List.mem_or_eq_of_mem_set hl with hl|hl
  ·exact h.sV l hl
  rw[hl,List.length_set,Z];exact R
 rcases List.mem_or_eq_of_mem_set hl with hl|hl
 ·exact h.sK l hl
 rw[hl,List.length_set,Y];exact O
def xD(V:List (List Int))(K:List (List Bool))(val:Nat→Nat→Int):Prop:=∀t n,(K.getD t []).getD n false=true→(V.getD t []).getD n 0=val t n
theorem VW{α:Type}(l:List α)(i j:Nat)(a z:α)(hi:i<l.length):(l.set i a).getD j z=if i=j then a else l.getD j z:=by
 rw[Zf,Zf,List.getElem?_set];by_cases h:i=j
 ·rw[Z0 h,Z0 h,Z0 hi];rfl
 rw[ZZ h,ZZ h]
theorem xD.put{V:List (List Int)}{K:List (List Bool)}{val:Nat→Nat→Int}(h:xD V K val){t n:Nat}(ht:t<V.length)(q:t<K.length)(z:n<(V.getD t []).length)(m:n<(K.getD t []).length){x:Int}(A:x=val t n) :
  xD (V.set t ((V.getD t []).set n x)) (K.set t ((K.getD t []).set n true)) val:=by
 intro y v f;rw[VW _ _ _ _ _ q] at f;rw[VW _ _ _ _ _ ht];by_cases j:t=y
 ·subst j;rw[Z0 rfl] at f ⊢;rw[VW _ _ _ _ _ m] at f;rw[VW _ _ _ _ _ z];by_cases g:n=v
  ·subst g;rw[Z0 rfl];exact A
  rw[ZZ g] at f ⊢;exact h t v f
 rw[ZZ j] at f ⊢;exact h y v f
def MS(B E mb:Nat)(vv kk:Value)(vs ks:List Value)(T:Nat)(val:Nat→Nat→Int)(W:World):Prop:=∃V K,Jv W B E mb vv kk vs ks V K∧V.length=T∧K.length=T∧xD V K val
theorem MS.keep{B E mb:Nat}{j f:Value}{vs g:List Value}{T:Nat}{val:Nat→Nat→Int}{W W':World}(h:MS B E mb j f vs g T val W)(hb:Below W.heap.size W W'):MS B E mb j f vs g T val W':=by
 obtain⟨V,K,m,q⟩:=h;exact⟨V,K,m.keep hb,q⟩
theorem MS.but{B E mb:Nat}{j f:Value}{vs g:List Value}{T:Nat}{val:Nat→Nat→Int}{W W':World}(h:MS B E mb j f vs g T val W){S:Nat→Prop}(hb:But S W W')(v:∀k,S k→¬Vr B E k):MS B E mb j f vs g T val W':=by
 obtain⟨V,K,m,q⟩:=h;exact⟨V,K,m.but hb v,q⟩
def zo(w0:World)(f:FD)(ai an aT al:Option Addr)(ci cn ct cl:Nat)(inl:List (List Int))(ain:Option Addr)(cin:Nat)(B E mb:Nat)(vv kk:Value)(vs ks:List Value)(val:Nat→Nat→Int)(t n:Nat):Prop :=
 ∀W,Below w0.heap.size w0 W→MS B E mb vv kk vs ks f.tasks.length val W →
  Calls prog 14 #[fv f ai an aT al ci cn ct cl,.slice ain inl.length cin,.pointer (some ⟨mb,0,none⟩),.int .i64 (t:Int),.int .i64 (n:Int)] W fun y W'=>y=.returned (.int .i64 (val t n))∧MS B E mb vv kk vs ks f.tasks.length val W'∧But (Vr B E) W W'
theorem vB{f:List (Int × Int × Int)}(j:f.all index.JI=true){n:Nat}(m:n≤1000000):index.yZ (index.YX f.reverse (n:Int))=index.Xv f (n:Int):=by
 unfold index.Xv;rw[ZZ];intro h;rcases h with h|h|h
 ·omega
 ·omega
 rw[List.any_eq_true] at h;obtain⟨o,g,h⟩:=h;rw[index.Vq (List.all_eq_true.1 j o g)] at h
 cases h
theorem ZdH{w:World}{b:Nat}{f g j:Value}{t:TypeId}(h:w.heap[b]?=some (.cells #[f,g,j] t (0,0))):(w.cell? ⟨b,0,none⟩=some f∧w.cell? ⟨b,1,none⟩=some g∧w.cell? ⟨b,2,none⟩=some j)∧∀o,w.frozen? ⟨b,o,none⟩=false:=by
 refine⟨⟨?_,?_,?_⟩,?_⟩
 all_goals first|(intro o;simp[World.frozen?,h])|simp[World.cell?,h]
theorem Zcg{w0 W:World}(f:FD)(ai an aT al:Option Addr)(ci cn ct cl:Nat)(inl:List (List Int))(Y:Option Addr)(ak:Nat)(B E mb:Nat)(vv kk:Value)(vs ks:List Value)(val:Nat→Nat→Int)(hI:f.ins.length≤1000)(ar:Qo w0 Y inl)(au:Below w0.heap.size w0 W)
  (am:w0.heap.size≤B)(hE:E≤W.heap.size)(hm:MS B E mb vv kk vs ks f.tasks.length val W)(src:Int)(z:List (Int × Int × Int))(oa:Option Addr)(oc:Nat)(U:index.OpA W oa z)(bv:z.length≤1000)(n:Nat)(hn:n≤1000000)(hr:z.all index.JI=true)(D m x k:Int)(ao:index.Xv z (n:Int)=(m,x,k))(h0:0≤src)(h1:src≤1000000)
  (hk:k≠1→D=x)(M:k=1→src<(f.ins.length:Int)→D=Jm (inl.getD src.toNat []) m)(aa:k=1→0≤m)(O:k=1→(f.ins.length:Int)≤src→∃s H:Nat,src=(f.ins.length:Int)+(s:Int)∧m=(H:Int)∧D=val s H∧zo w0 f ai an aT al ci cn ct cl inl Y ak B E mb vv kk vs ks val s H) :
  Calls prog 39 #[fv f ai an aT al ci cn ct cl,.slice Y inl.length ak,.pointer (some ⟨mb,0,none⟩),.agg #[.int .i64 src,.slice oa z.length oc],.int .i64 (n:Int)] W fun y W'=>y=.returned (.int .i64 D)∧MS B E mb vv kk vs ks f.tasks.length val W'∧But (Vr B E) W W':=by
 unfold zo at O;unfold fv at *;obtain⟨nI,aw⟩:=ez f.ins.length;rw[aw] at hI M O ⊢;obtain⟨I,F⟩:∃I,((W.alloc (.cells #[.slice ai nI ci,.slice an f.nods.length cn,.slice aT f.tasks.length ct,.slice al f.tells.length cl] 35)).alloc (.cells #[.int .i64 src,.slice oa z.length oc] 92))=I:=⟨_,rfl⟩;have hb1:Below W.heap.size W I:=by rw[←F];exact bq
 have bk:I.heap.size=W.heap.size+2:=by rw[←F];simp
 have ac:I.heap[W.heap.size]?=some (.cells #[.slice ai nI ci,.slice an f.nods.length cn,.slice aT f.tasks.length ct,.slice al f.tells.length cl] 35 (0,0)):=by rw[←F];exact(Za _ _ _ (by simp)).trans (Yw W _)
 have ae:I.heap[W.heap.size+1]?=some (.cells #[.int .i64 src,.slice oa z.length oc] 92 (0,0)):=by rw[←F];simpa using Yw (W.alloc (.cells #[.slice ai nI ci,.slice an f.nods.length cn,.slice aT f.tasks.length ct,.slice al f.tells.length cl] 35)) _
 have J:=index.jM z oa oc (n:Int) I oq (U.below hb1 (Zc _)) oq oq hr;rw[vB hr hn,ao] at J;unfold index.j8 at J;simp only at J;have X:=hid J;have HB1:=hid hb1;have be:=hid ac;have ah:=hid ae;have HS:=hid hm;have ag:=hid au;have bc:=hid ar;have HE:=hid hE;have bp:=hid am;obtain⟨⟨a0,a1⟩,af⟩:=YJ ae;obtain⟨⟨f0,f1,f2,f3⟩,ff⟩:=Yx ac;obtain⟨nO,ax⟩:=ez z.length;rw[ax] at a1 X ah F ⊢;have bh:W.heap.size<I.heap.size:=oq;have bi:W.heap.size+1<I.heap.size:=oq;clear hb1 ac ae J hm au ar hE am U ao hr aw ax bk;go_enter func39,ntmps39;go_upto_region 1 with fail
 first|rw[F]|skip
 clear F;go_upto_region 2 with (go_at_call 95;refine X.out.mono ?_;rintro y w1 ⟨rfl,hb1⟩;have HB2:=hid hb1;clear hb1)
 obtain⟨W2,R⟩:=ez (w1.alloc (.cells #[.int .i64 m,.int .i64 x,.int .i64 k] 185))
 first|rw[R]|skip
 have hb2:Below I.heap.size I W2:=by rw[←R];exact HB2.out.trans ((Zg _ _).alloc HB2.out.size _)
 have ay:W2.heap[w1.heap.size]?=some (.cells #[.int .i64 m,.int .i64 x,.int .i64 k] 185 (0,0)):=by rw[←R];exact Yw w1 _
 obtain⟨⟨b0,b1,b2⟩,bf⟩:=ZdH ay;obtain⟨⟨a0,a1⟩,af⟩:=YJ ((hb2.block _ bi).trans ah.out);obtain⟨⟨f0,f1,f2,f3⟩,ff⟩:=Yx ((hb2.block _ bh).trans be.out);have L:Below W.heap.size W W2:=HB1.out.trans (hb2.mono HB1.out.size);have HBW:=hid L;have aj:=hid (HS.out.keep L);have T:=hid (ag.out.trans (L.mono ag.out.size));have q:=hid (bc.out.keep T.out.block);have A:=hid (show MS B E mb vv kk vs ks f.tasks.length val W2∧But (Vr B E) W W2 from ⟨aj.out,But.of_below L⟩);clear hb2 ay R L X;by_cases G:k=1
 ·subst G;have bn:=aa rfl;clear hk aa;by_cases hs:nI≤src
  ·obtain⟨s,H,az,rfl,g,hV⟩:=O rfl hs;have HV:=hid (hV W2 T.out aj.out);have bs:src≥(nI:Int):=hs;have bo:IntKind.i64.wrap (src-(nI:Int))=(s:Int):=by rw[show src-(nI:Int)=(s:Int) by omega];exact ZJ _ oq
   have bl:src-(nI:Int)=(s:Int):=oq;have ba:=hid g;clear O M az hV g q hs;go_wp2_with (go_at_call 14;refine HV.out.mono ?_;rintro y w4 ⟨rfl,av,ap⟩;have bd:=hid av;have bb:=hid ap;clear av ap);have e:=ba.out;subst e;go_ret;exact⟨rfl,bd.out,A.out.2.then bb.out (fun _ _ h=>h)⟩
  have bu:¬src≥(nI:Int):=oq;have g:=M rfl oq;obtain⟨j,rfl⟩:∃j:Nat,src=(j:Int):=⟨src.toNat,oq⟩;obtain⟨H,rfl⟩:∃H:Nat,m=(H:Int):=⟨m.toNat,oq⟩;rw[ZP] at g;clear O M;by_cases hj:j<inl.length
  ·obtain⟨l,hl⟩:∃l,inl[j]?=some l:=⟨_,Ze hj⟩;have Z:inl.getD j []=l:=by rw[Zf,hl];rfl
   rw[Z] at g;have bg:(j:Int)<(inl.length:Int):=oq;have bt:(0:Int)≤(j:Int):=oq;obtain⟨b,o,rfl,hb,hc⟩:=q.out.resolve_left (fun e=>by rw[e] at hj;simp at hj);obtain⟨a,c,c1,V⟩:=hc j l hl;by_cases ab:H<l.length
   ·have bj:(H:Int)<(l.length:Int):=oq;obtain⟨v,O⟩:∃v,l[H]?=some v:=⟨_,Ze ab⟩;have C:D=v:=by rw[g];unfold Jm;rw[ZZ oq,ZP,Zf,O];rfl
    obtain⟨b',o',rfl,br,aq⟩:=V.resolve_left (fun e=>by rw[e] at ab;simp at ab);have c2:=aq H v O;have bm:(0:Int)≤(H:Int):=oq;clear g hc aq O hl Z q;subst C;go_upto_region 6 with fail
    go_quiet (fail);go_upto_region 7 with fail
    go_quiet (fail);go_wp2;go_ret;exact⟨rfl,(A.out.1.keep (below_drewN (Zg _ _) _)),A.out.2.drewN _⟩
   have bj:¬(H:Int)<(l.length:Int):=oq;have C:D=0:=by rw[g];unfold Jm;rw[Z0 (.inr oq)]
   subst C;clear g hc hl Z V q;go_upto_region 6 with fail
   go_quiet (fail);go_wp2;go_ret;exact⟨rfl,(A.out.1.keep (below_drewN (Zg _ _) _)),A.out.2.drewN _⟩
  have bg:¬(j:Int)<(inl.length:Int):=oq;have C:D=0:=by rw[g,Zf,Ya oq];unfold Jm;rw[Z0 (.inr (by simp))]
  subst C;clear g q;go_upto_region 6 with fail
  go_quiet (fail);go_wp2;go_ret;exact⟨rfl,(A.out.1.keep (below_drewN (Zg _ _) _)),A.out.2.drewN _⟩
 have e:=hk G;subst e;have e1:(k != 1)=true:=bne_iff_ne.2 G;clear hk M aa O G q;go_wp2;go_ret;exact⟨rfl,A.out⟩
end Go.Proofs.YtdgifkjaflfdeaaGreatDoor.syn
