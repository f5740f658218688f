/- Parts of the proof. -/
import Derived.Test.YtdgifkjaflfdeaaGreatDoorV43
set_option linter.all false
set_option maxRecDepth 100000
set_option maxHeartbeats 16000000
namespace Go.Proofs.YtdgifkjaflfdeaaGreatDoor.syn
open Tryz
open Go.RowKit
theorem k7{w w':World}{base:Nat}{e:TypeId}{vs:List Value}{m:List (List Value)}(h:Fam w base e vs m){S:Nat→Prop}(hb:But S w w')(A:∀(i:Nat)(v:Value)(k:Nat),vs[i]?=some v→v.ownBlock=some k→¬S k){v:Value}{xs:List Value}
  (C:w'.ownsRow base e 1 v xs.length xs)(y:∀k,v.ownBlock=some k→w.heap.size≤k):Fam w' base e (vs++[v]) (m++[xs]):=by
 have z:=h.but hb A;have q:=h.len;have g:∀(i:Nat)(u:Value),(vs++[v])[i]?=some u→(i<vs.length∧vs[i]?=some u)∨(i=vs.length∧u=v):=by
  intro i u f;by_cases hi:i<vs.length
  ·rw[List.getElem?_append_left hi] at f;exact .inl ⟨hi,f⟩
  have:=(Zz.1 f).1;simp at this;obtain rfl:i=vs.length:=oq;rw[List.getElem?_append_right (Zc _),Nat.sub_self] at f;exact .inr ⟨rfl,by simpa using f.symm⟩
 refine⟨by simp[q],fun i u xs' h1 h2=>?_,fun i j u x k h1 h2 f hx=>?_⟩
 ·rcases g i u h1 with ⟨hi,f⟩|⟨rfl,rfl⟩
  ·rw[List.getElem?_append_left oq] at h2;exact z.own i u xs' f h2
  rw[q,List.getElem?_append_right (Zc _),Nat.sub_self] at h2;obtain rfl:xs=xs':=by simpa using h2
  exact C
 rcases g i u h1 with ⟨hi,hui⟩|⟨rfl,rfl⟩
 ·rcases g j x h2 with ⟨hj,hxj⟩|⟨rfl,rfl⟩
  ·exact h.dis i j u x k hui hxj f hx
  have:=(h.block hui k f).2;have:=y k hx;omega
 rcases g j x h2 with ⟨hj,hxj⟩|⟨rfl,rfl⟩
 ·have:=(h.block hxj k hx).2;have:=y k f;omega
 rfl
theorem Zfx:(prog.info? 54).map (fun i=>(i.zero,i.size,i.bytes))=some (some (.slice none 0 0),1,24):=by kernel_rfl
theorem Zfw:(prog.info? 105).map (fun i=>(i.zero,i.size,i.bytes))=some (some (.slice none 0 0),1,24):=by kernel_rfl
theorem Zfv:(prog.info? 4).map (fun i=>(i.zero,i.size,i.bytes))=some (some (.bool false),1,1):=by kernel_rfl
def Zdj:List Int:=List.replicate 400 0
def G9:List Bool:=List.replicate 400 false
theorem Zao{W:World}{B g N:Nat}(j:N≤100000)(f:B≤g)(h:W.heap[g]?=some (.cells (madeCells #[.int .i64 0] N) 2 (0,0))):W.ownsRow B 2 1 (.slice (some ⟨g,0,none⟩) N N) N (ints (List.replicate N 0)):=by
 rw[Va] at h;exact⟨by simp[ints],.inr ⟨g,N,_,rfl,f,h,Zc _,by unfold maxLen;omega,by simp,by simp[ints]⟩⟩
theorem Zcb{W:World}{B g:Nat}(hB:B≤g)(h:W.heap[g]?=some (.cells (madeCells #[.int .i64 0] 400) 2 (0,0))):W.ownsRow B 2 1 (.slice (some ⟨g,0,none⟩) 400 400) 400 (ints Zdj):=Zao oq hB h
theorem uw{W:World}{B g N:Nat}(j:N≤100000)(f:B≤g)(h:W.heap[g]?=some (.cells (madeCells #[.bool false] N) 4 (0,0))):W.ownsRow B 4 1 (.slice (some ⟨g,0,none⟩) N N) N (X9 (List.replicate N false)):=by
 rw[Va] at h;exact⟨by simp[X9],.inr ⟨g,N,_,rfl,f,h,Zc _,by unfold maxLen;omega,by simp,by simp[X9]⟩⟩
theorem Zan{W:World}{B g:Nat}(hB:B≤g)(h:W.heap[g]?=some (.cells (madeCells #[.bool false] 400) 4 (0,0))):W.ownsRow B 4 1 (.slice (some ⟨g,0,none⟩) 400 400) 400 (X9 G9):=uw oq hB h
theorem j7:Zdj.length=400:=List.length_replicate
theorem qd:G9.length=400:=List.length_replicate
theorem XT{w:World}{mb:Nat}{q:Array Value}{m e:TypeId}{y:Nat × Nat}{B s n:Nat}{v:Value}{xs:List Value}(g:w.heap[mb]?=some (.cells q m y))(z:w.ownsRow B e s v n xs)(j:e≠m):∀k,v.ownBlock=some k→k≠mb:=by
 intro k f x;subst x;rcases z.2 with ⟨h1,_⟩|⟨g2,cap,cur,h1,_,hg2,_⟩
 ·rw[h1] at f;cases f
 rw[h1] at f;injection f with f
 subst f;rw[g] at hg2;injection hg2 with hg2
 injection hg2 with _ h3 _
 exact j h3.symm
theorem Jv.appV{W w4:World}{B mb:Nat}{D H f:Value}{vs I:List Value}{V:List (List Int)}{K:List (List Bool)}(h:Jv W B W.heap.size mb D H vs I V K){g:Nat}(hb:But (fun k=>D.ownBlock=some k) W w4)(L:W.heap.size≤g)
  (q:w4.ownsRow B 54 1 f (V.length+1) (vs++[.slice (some ⟨g,0,none⟩) 400 400]))(M:∀k,f.ownBlock=some k→D.ownBlock=some k∨W.heap.size≤k)(x:w4.ownsRow B 2 1 (.slice (some ⟨g,0,none⟩) 400 400) 400 (ints Zdj)) :
  Jv (w4.setCell ⟨mb,0,none⟩ f) B (w4.setCell ⟨mb,0,none⟩ f).heap.size mb f H (vs++[.slice (some ⟨g,0,none⟩) 400 400]) I (V++[Zdj]) K:=by
 have C:=Zb h.box;have E:¬D.ownBlock=some mb:=fun e=>XT h.box h.ownV (by decide) mb e rfl
 have m:=(hb.block mb C E).trans h.box;have j:But (fun k=>k=mb) w4 (w4.setCell ⟨mb,0,none⟩ f):=But.set (S:=fun k=>k=mb) rfl _;have hb2:But (fun k=>D.ownBlock=some k∨k=mb) W (w4.setCell ⟨mb,0,none⟩ f):=(hb.imp (fun _ _ e=>.inl e)).then j (fun _ _ e=>.inr e);have y:W.heap.size≤(w4.setCell ⟨mb,0,none⟩ f).heap.size:=hb2.size;have A:∀{e:TypeId}{v:Value}{n:Nat}{xs:List Value},w4.ownsRow B e 1 v n xs→∀k,v.ownBlock=some k→k<(w4.setCell ⟨mb,0,none⟩ f).heap.size:=fun z k hk=>Zd (World.ownsRow.lt z k hk).2 j.size
 have F:=j.own x (fun k hk e=>XT m x (by decide) k hk e);refine⟨⟨h.mbB.1,Zd C y⟩,Zc _,?_,?_,?_,?_,?_,fun k hk=>A q k hk,fun k hk=>Zd (h.topK k hk) y,fun v hv2 k hk=>?_,fun v hv2 k hk=>Zd (h.toK v hv2 k hk) y,fun l hl=>?_,h.sK⟩
 ·have:=Zj w4 mb 0 _ _ f m;rw[this];rfl
 ·rw[Zw,List.length_singleton];exact j.own q (fun k hk e=>XT m q (by decide) k hk e)
 ·refine j.own (hb.own h.ownK (fun k hk=>Gc h.ownK h.ownV (by decide) k hk)) (fun k hk e=>XT h.box h.ownK (by decide) k hk e)
 ·rw[ZT];refine k7 h.famV hb2 (fun i v k hv2 hk e=>?_) (by rw[X1,j7];exact F) (fun k hk=>by have J:g=k:=(by injection hk);omega);have hi:i<V.length:=by have:=(Zz.1 hv2).1;have G:=h.famV.len;rw[Zo] at G;omega
  have z:=h.famV.own i v (ints V[i]) hv2 (by rw[List.getElem?_map,Ze hi];rfl);rcases e with e|e
  ·exact Gc z h.ownV (by decide) k hk e
  exact XT h.box z (by decide) k hk e
 ·refine h.famK.but hb2 (fun i v k hv2 hk e=>?_);have hi:i<K.length:=by have:=(Zz.1 hv2).1;have G:=h.famK.len;rw[Zo] at G;omega
  have z:=h.famK.own i v (X9 K[i]) hv2 (by rw[List.getElem?_map,Ze hi];rfl);rcases e with e|e
  ·exact Gc z h.ownV (by decide) k hk e
  exact XT h.box z (by decide) k hk e
 ·rcases List.mem_append.1 hv2 with hv2|hv2
  ·exact Zd (h.toV v hv2 k hk) y
  rw[List.mem_singleton.1 hv2] at hk;exact A x k hk
 rcases List.mem_append.1 hl with hl|hl
 ·exact h.sV l hl
 rw[List.mem_singleton.1 hl];exact j7
theorem Jv.appK{W w4:World}{B mb:Nat}{H D f:Value}{vs F:List Value}{V:List (List Int)}{K:List (List Bool)}(h:Jv W B W.heap.size mb H D vs F V K){g:Nat}(hb:But (fun k=>D.ownBlock=some k) W w4)(J:W.heap.size≤g)
  (q:w4.ownsRow B 105 1 f (K.length+1) (F++[.slice (some ⟨g,0,none⟩) 400 400]))(L:∀k,f.ownBlock=some k→D.ownBlock=some k∨W.heap.size≤k)(x:w4.ownsRow B 4 1 (.slice (some ⟨g,0,none⟩) 400 400) 400 (X9 G9)) :
  Jv (w4.setCell ⟨mb,1,none⟩ f) B (w4.setCell ⟨mb,1,none⟩ f).heap.size mb H f vs (F++[.slice (some ⟨g,0,none⟩) 400 400]) V (K++[G9]):=by
 have C:=Zb h.box;have m:=(hb.block mb C (fun e=>XT h.box h.ownK (by decide) mb e rfl)).trans h.box;have j:But (fun k=>k=mb) w4 (w4.setCell ⟨mb,1,none⟩ f):=But.set (S:=fun k=>k=mb) rfl _;have hb2:But (fun k=>D.ownBlock=some k∨k=mb) W (w4.setCell ⟨mb,1,none⟩ f):=(hb.imp (fun _ _ e=>.inl e)).then j (fun _ _ e=>.inr e);have y:W.heap.size≤(w4.setCell ⟨mb,1,none⟩ f).heap.size:=hb2.size;have A:∀{e:TypeId}{v:Value}{n:Nat}{xs:List Value},w4.ownsRow B e 1 v n xs→∀k,v.ownBlock=some k→k<(w4.setCell ⟨mb,1,none⟩ f).heap.size:=fun z k hk=>Zd (World.ownsRow.lt z k hk).2 j.size
 have E:=j.own x (fun k hk e=>XT m x (by decide) k hk e);refine⟨⟨h.mbB.1,Zd C y⟩,Zc _,?_,?_,?_,?_,?_,fun k hk=>Zd (h.topV k hk) y,fun k hk=>A q k hk,fun v hv2 k hk=>Zd (h.toV v hv2 k hk) y,fun v hv2 k hk=>?_,h.sV,fun l hl=>?_⟩
 ·have:=Zj w4 mb 1 _ _ f m;rw[this];rfl
 ·refine j.own (hb.own h.ownV (fun k hk=>Gc h.ownV h.ownK (by decide) k hk)) (fun k hk e=>XT h.box h.ownV (by decide) k hk e)
 ·rw[Zw,List.length_singleton];exact j.own q (fun k hk e=>XT m q (by decide) k hk e)
 ·refine h.famV.but hb2 (fun i v k hv2 hk e=>?_);have hi:i<V.length:=by have:=(Zz.1 hv2).1;have G:=h.famV.len;rw[Zo] at G;omega
  have z:=h.famV.own i v (ints V[i]) hv2 (by rw[List.getElem?_map,Ze hi];rfl);rcases e with e|e
  ·exact Gc z h.ownK (by decide) k hk e
  exact XT h.box z (by decide) k hk e
 ·rw[ZT];refine k7 h.famK hb2 (fun i v k hv2 hk e=>?_) (by rw[VT,qd];exact E) (fun k hk=>by have I:g=k:=(by injection hk);omega);have hi:i<K.length:=by have:=(Zz.1 hv2).1;have G:=h.famK.len;rw[Zo] at G;omega
  have z:=h.famK.own i v (X9 K[i]) hv2 (by rw[List.getElem?_map,Ze hi];rfl);rcases e with e|e
  ·exact Gc z h.ownK (by decide) k hk e
  exact XT h.box z (by decide) k hk e
 ·rcases List.mem_append.1 hv2 with hv2|hv2
  ·exact Zd (h.toK v hv2 k hk) y
  rw[List.mem_singleton.1 hv2] at hk;exact A x k hk
 rcases List.mem_append.1 hl with hl|hl
 ·exact h.sK l hl
 rw[List.mem_singleton.1 hl];exact qd
def xE(w:World)(mb i:Nat)(W:World):Prop:=∃vv kk vs ks V K,Jv W w.heap.size W.heap.size mb vv kk vs ks V K∧V.length=i∧K.length=i∧(∀l∈K,l=G9)∧Below w.heap.size w W∧mb=w.heap.size
theorem Zaa{V:List (List Int)}{K:List (List Bool)}(h:∀l∈K,l=G9)(val:Nat→Nat→Int):xD V K val:=by
 intro t n f;exfalso;rw[Zf,Zf] at f
 cases hl:K[t]? with
 | none=>rw[hl] at f;simp at f
 | some l =>
  rw[hl] at f;simp only[Z7] at f;rw[h l (Z8 hl)] at f;unfold G9 at f;rw[List.getElem?_replicate] at f;split at f<;>simp at f
def Zdq(w:World)(mb i:Nat)(W:World):Prop:=∃vv kk vs ks V K,Jv W w.heap.size W.heap.size mb vv kk vs ks V K∧V.length=i+1∧K.length=i∧(∀l∈K,l=G9)∧Below w.heap.size w W∧mb=w.heap.size
theorem Zdq.of{w W w4:World}{mb i g cap4:Nat}{x y f:Value}{vs z:List Value}{V:List (List Int)}{K:List (List Bool)}(h:Jv W w.heap.size W.heap.size mb x y vs z V K)(D:V.length=i)(hK:K.length=i)(E:∀l∈K,l=G9)(j:Below w.heap.size w W)(v:mb=w.heap.size)
  (hb:But (fun k=>x.ownBlock=some k) W w4)(F:W.heap.size≤g)(m:w4.ownsRow w.heap.size 54 1 f (i+1) (vs++[.slice (some ⟨g,0,none⟩) 400 400]))(G:∀k,f.ownBlock=some k→x.ownBlock=some k∨W.heap.size≤k)(q:w4.ownsRow w.heap.size 2 1 (.slice (some ⟨g,0,none⟩) 400 400) 400 (ints Zdj)) :
  Zdq w mb i (w4.setCell ⟨mb,0,none⟩ f):=by
 subst D;refine⟨f,y,_,z,_,K,h.appV hb F m G q,by simp,hK,E,j.trans ?_,v⟩;have A:But (fun k=>w.heap.size≤k) W w4:=hb.imp (fun k _ e=>YW h.ownV k e);have C:But (fun k=>w.heap.size≤k) w4 (w4.setCell ⟨mb,0,none⟩ f):=But.set (S:=fun k=>w.heap.size≤k) (show w.heap.size≤mb by omega) _;exact(A.trans C).below j.size (fun k e=>e)
theorem xE.of{w W w4:World}{mb i g cap4:Nat}{z x f:Value}{vs y:List Value}{V:List (List Int)}{K:List (List Bool)}(h:Jv W w.heap.size W.heap.size mb z x vs y V K)(D:V.length=i+1)(hK:K.length=i)(E:∀l∈K,l=G9)(j:Below w.heap.size w W)(v:mb=w.heap.size)
  (hb:But (fun k=>x.ownBlock=some k) W w4)(F:W.heap.size≤g)(m:w4.ownsRow w.heap.size 105 1 f (i+1) (y++[.slice (some ⟨g,0,none⟩) 400 400]))(G:∀k,f.ownBlock=some k→x.ownBlock=some k∨W.heap.size≤k)(q:w4.ownsRow w.heap.size 4 1 (.slice (some ⟨g,0,none⟩) 400 400) 400 (X9 G9)) :
  xE w mb (i+1) (w4.setCell ⟨mb,1,none⟩ f):=by
 subst hK;refine⟨z,f,vs,_,V,_,h.appK hb F m G q,D,by simp,fun l hl=>?_,j.trans ?_,v⟩
 ·rcases List.mem_append.1 hl with hl|hl
  ·exact E l hl
  exact List.mem_singleton.1 hl
 have A:But (fun k=>w.heap.size≤k) W w4:=hb.imp (fun k _ e=>YW h.ownK k e);have C:But (fun k=>w.heap.size≤k) w4 (w4.setCell ⟨mb,1,none⟩ f):=But.set (S:=fun k=>w.heap.size≤k) (show w.heap.size≤mb by omega) _;exact(A.trans C).below j.size (fun k e=>e)
theorem xE.start(w:World):xE w w.heap.size 0 (w.alloc (.cells #[.slice none 0 0,.slice none 0 0] 104)) :=
 ⟨.slice none 0 0,.slice none 0 0,[],[],[],[],⟨⟨Zc _,by simp⟩,Zc _,Yw w _,Yd _ _ _ _,Yd _ _ _ _,⟨rfl,fun i v xs h=>by simp at h,fun i j v u k h=>by simp at h⟩,⟨rfl,fun i v xs h=>by simp at h,fun i j v u k h=>by simp at h⟩,fun k h=>(by cases h),fun k h=>(by cases h),fun v h=>(by cases h),fun v h=>(by cases h),fun l h=>(by cases h),fun l h=>(by cases h)⟩,rfl,rfl,fun l h=>(by cases h),(Zg _ _).alloc (Zc _) _,rfl⟩
theorem Zd5{w:World}(T:Nat)(hT:T≤1000) :
  Calls prog 13 #[.int .i64 (T:Int),.int .i64 400] w fun y w'=>y=.returned (.pointer (some ⟨w.heap.size,0,none⟩))∧xE w w.heap.size T w':=by
 have Y:=fun W=>run_make_row' (P:=prog) 54 2 (.int .i64 0) 8 underlying54 GC rfl .i64 .i64 400 oq oq W
 have Z:=fun W=>run_make_row' (P:=prog) 105 4 (.bool false) 1 underlying105 Zfv rfl .i64 .i64 400 oq oq W
 rw[show((400:Nat):Int)=400 from rfl] at Y Z;have ah:=hid (xE.start w);go_enter func13,ntmps13;go_wp2;go_loopw [6] (fun s6 wr=>Hid (∃i:Nat,s6=.int .i64 (i:Int)∧i≤T∧xE w w.heap.size i wr)) (fun s _=>T-(intOf s).toNat)
 case atStart=>exact⟨0,rfl,Zk _,ah.out⟩
 clear ah;obtain⟨j,rfl⟩:=ey wr;obtain⟨i,rfl,hi,ae⟩:=hrel.out;clear hrel;have aj:=hid ae;by_cases ak:i<T
 ·have i1:(i:Int)<(T:Int):=oq;obtain⟨vv,kk,vs,ks,V,K,U,hV,hK,hf,D,_⟩:=ae;have L:=U.box;have how:=U.ownV;rw[hV] at how;obtain⟨H,I,rfl⟩:=YG how;have E:=Zb L;have X:w.heap.size≤j.heap.size:=D.size;have O:=hid L;have F:=hid how;have R:Hid (∀k,(Value.slice H i I).ownBlock=some k→k=w.heap.size→False):=hid (XT L how (by decide));obtain⟨⟨x0,x1⟩,xf⟩:=YJ L;have g:=hid (Zh U (Zh hV (Zh hK (Zh hf D))));obtain⟨af,x,z,A,C⟩:=info_parts Zfx;have M:=hid (Zh x (Zh z (Zh A C)));clear x z A C U hV hK hf D L how;go_upto_region 5 with fail
  go_cut [] (fun W=>Hid (Zdq w w.heap.size i W))
  case first =>
   clear Z;go_region_law (refine step_append_lies _ (by rfl) _ _ _ (by rfl) w.heap.size 54 af _ 1 24 underlying28 M.out.1 M.out.2.1 M.out.2.2.1 M.out.2.2.2 rfl oq (.slice H i I) i vs (by rfl) (own_below F.out bq) ⟨j.heap.size+1,0,none⟩ 1 1 [.slice (some ⟨j.heap.size,0,none⟩) 400 400] (by rfl) (by rfl) (World.news_of_block (by have h:=Yw (j.alloc (.cells (madeCells #[.int .i64 0] 400) 2)) (.cells #[.slice (some ⟨j.heap.size,0,none⟩) 400 400] 54);rw[Zt] at h;exact h)) (by simp[Value.oneCell']) oq (by unfold maxLen;omega) oq (by simp;omega) (j.heap.size+2) (by simp) ?_;intro gg cap4 w4 q f v ai;have m:But (fun k=>(Value.slice H i I).ownBlock=some k) j w4:=(But.of_below (bq:Below j.heap.size j _)).then (But.of_grown f) (fun k _ e=>e);have J:¬(Value.slice H i I).ownBlock=some w.heap.size:=(fun e=>R.out w.heap.size e rfl);have ag:=(m.block w.heap.size E J).trans O.out;obtain⟨⟨k0,k1⟩,kf⟩:=YJ ag;have ac:=hid q;have G:=hid m;have aa:=hid (show ∀k,(Value.slice (some ⟨gg,0,none⟩) (i+1) cap4).ownBlock=some k→(Value.slice H i I).ownBlock=some k∨j.heap.size≤k from fun k hk=>(by have e9:gg=k:=(by injection hk);subst e9;exact v.elim .inl (fun e=>.inr oq)));have ab:=hid (show w4.heap[j.heap.size]?=some (.cells (madeCells #[.int .i64 0] 400) 2 (0,0)) from(f.block j.heap.size (by simp;omega) (fun e=>by have:=(World.ownsRow.lt F.out _ e.symm).2;omega)).trans ((Za _ _ _ (by simp)).trans (Yw _ _)));clear q f v m)
   all_goals (go_wp2_with fail;go_meet;exact hid (Zdq.of (cap4:=cap4) g.out.1 g.out.2.1 g.out.2.2.1 g.out.2.2.2.1 g.out.2.2.2.2 rfl G.out (Zc _) ac.out aa.out (Zcb X ab.out)))
  obtain⟨j,rfl⟩:=ey wc;obtain⟨vv,kk,vs,ks,V,K,U,hV,hK,hf,D,_⟩:=hcut.out;clear hcut Y x0 x1 xf M O F R g E X;have L:=U.box;have how:=U.ownK;rw[hK] at how;obtain⟨H,I,rfl⟩:=YG how;have E:=Zb L;have X:w.heap.size≤j.heap.size:=D.size;have O:=hid L;have F:=hid how;have R:Hid (∀k,(Value.slice H i I).ownBlock=some k→k=w.heap.size→False):=hid (XT L how (by decide));obtain⟨⟨x0,x1⟩,xf⟩:=YJ L;have g:=hid (Zh U (Zh hV (Zh hK (Zh hf D))));obtain⟨af,x,z,A,C⟩:=info_parts Zfw;have M:=hid (Zh x (Zh z (Zh A C)));clear x z A C U hV hK hf D L how;go_upto_region 6 with fail
  go_region_law (refine step_append_lies _ (by rfl) _ _ _ (by rfl) w.heap.size 105 af _ 1 24 underlying102 M.out.1 M.out.2.1 M.out.2.2.1 M.out.2.2.2 rfl oq (.slice H i I) i ks (by rfl) (own_below F.out bq) ⟨j.heap.size+1,0,none⟩ 1 1 [.slice (some ⟨j.heap.size,0,none⟩) 400 400] (by rfl) (by rfl) (World.news_of_block (by have h:=Yw (j.alloc (.cells (madeCells #[.bool false] 400) 4)) (.cells #[.slice (some ⟨j.heap.size,0,none⟩) 400 400] 105);rw[Zt] at h;exact h)) (by simp[Value.oneCell']) oq (by unfold maxLen;omega) oq (by simp;omega) (j.heap.size+2) (by simp) ?_;intro gg cap4 w4 q f v ai;have m:But (fun k=>(Value.slice H i I).ownBlock=some k) j w4:=(But.of_below (bq:Below j.heap.size j _)).then (But.of_grown f) (fun k _ e=>e);have J:¬(Value.slice H i I).ownBlock=some w.heap.size:=(fun e=>R.out w.heap.size e rfl);have ag:=(m.block w.heap.size E J).trans O.out;obtain⟨⟨k0,k1⟩,kf⟩:=YJ ag;have ac:=hid q;have G:=hid m;have aa:=hid (show ∀k,(Value.slice (some ⟨gg,0,none⟩) (i+1) cap4).ownBlock=some k→(Value.slice H i I).ownBlock=some k∨j.heap.size≤k from fun k hk=>(by have e9:gg=k:=(by injection hk);subst e9;exact v.elim .inl (fun e=>.inr oq)));have ab:=hid (show w4.heap[j.heap.size]?=some (.cells (madeCells #[.bool false] 400) 4 (0,0)) from(f.block j.heap.size (by simp;omega) (fun e=>by have:=(World.ownsRow.lt F.out _ e.symm).2;omega)).trans ((Za _ _ _ (by simp)).trans (Yw _ _)));clear q f v m)
  all_goals (go_wp2_with fail;exact⟨hid ⟨i+1,by go_num,ak,xE.of (cap4:=cap4) g.out.1 g.out.2.1 g.out.2.2.1 g.out.2.2.2.1 g.out.2.2.2.2 rfl G.out (Zc _) ac.out aa.out (Zan X ab.out)⟩,by simp[intOf];omega⟩)
 have i1:¬(i:Int)<(T:Int):=oq;obtain rfl:i=T:=oq;clear ae;go_wp2;go_ret;exact⟨rfl,aj.out⟩
end Go.Proofs.YtdgifkjaflfdeaaGreatDoor.syn
