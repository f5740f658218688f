/- Parts of the proof. -/
import Derived.Deep.CutBlock
import Derived.Deep.DeepCutAuto
import Derived.Deep.OwnRows
import Derived.Deep.RegionLaw
import Derived.Lib.SlicesCompact
import Derived.Sort.CutIn
import Derived.Test.YtgigilkpndhddaaGreatDoorV05
set_option linter.all false
set_option maxRecDepth 100000
set_option maxHeartbeats 16000000
namespace Go.Proofs.YtgigilkpndhddaaGreatDoor.syn
open Tryz
open Go.RowKit
structure But (S:Nat→Prop) (w w':World):Prop where
 os:w'.os=w.os
 tape:w'.tape=w.tape
 output:w'.output=w.output
 size:w.heap.size≤w'.heap.size
 block:∀k,k<w.heap.size→¬S k→w'.heap[k]?=w.heap[k]?
theorem But.refl(S:Nat→Prop)(w:World):But S w w:=⟨rfl,rfl,rfl,Zc _,fun _ _ _=>rfl⟩
theorem But.trans{S:Nat→Prop}{a b c:World}(h:But S a b)(k:But S b c):But S a c :=
 ⟨k.os.trans h.os,k.tape.trans h.tape,k.output.trans h.output,Zm h.size k.size,fun i hi hr=>(k.block i (Zd hi h.size) hr).trans (h.block i hi hr)⟩
theorem But.then{S T:Nat→Prop}{a b c:World}(h:But S a b)(k:But T b c)(hT:∀i,i<a.heap.size→T i→S i):But S a c :=
 ⟨k.os.trans h.os,k.tape.trans h.tape,k.output.trans h.output,Zm h.size k.size,fun i hi hr=>(k.block i (Zd hi h.size) (fun t=>hr (hT i hi t))).trans (h.block i hi hr)⟩
theorem But.imp{S T:Nat→Prop}{a b:World}(h:But S a b)(hT:∀i,i<a.heap.size→S i→T i):But T a b:=⟨h.os,h.tape,h.output,h.size,fun k hk hr=>h.block k hk (fun s=>hr (hT k hk s))⟩
theorem But.of_below{S:Nat→Prop}{a b:World}(h:Below a.heap.size a b):But S a b:=⟨h.os,h.tape,h.output,h.size,fun k hk _=>h.block k hk⟩
theorem But.of_upon{r:Nat}{a b:World}(h:Upon r a b):But (fun k=>k=r) a b:=⟨h.os,h.tape,h.output,h.size,fun k hk hr=>h.block k hk hr⟩
theorem But.of_grown{row:Option Nat}{a b:World}(h:a.grownBy b row):But (fun k=>row=some k) a b:=⟨h.os,h.tape,h.output,h.size,fun k hk hr=>h.block k hk (fun e=>hr e.symm)⟩
theorem But.below{S:Nat→Prop}{B:Nat}{a b:World}(h:But S a b)(h1:B≤a.heap.size)(h2:∀k,S k→B≤k):Below B a b :=
 ⟨h.os,h.tape,h.output,h.size,fun k hk=>h.block k oq (fun s=>by have:=h2 k s;omega)⟩
theorem But.drewN{S:Nat→Prop}{a w:World}(h:But S a w)(n:Nat):But S a (w.drewN n):=⟨h.os,h.tape,h.output,h.size,h.block⟩
theorem But.drew{S:Nat→Prop}{a w:World}(h:But S a w):But S a w.drew:=⟨h.os,h.tape,h.output,h.size,h.block⟩
theorem But.set{S:Nat→Prop}{w:World}{b o:Nat}(hb:S b)(u:Value):But S w (w.setCell ⟨b,o,none⟩ u) :=
 (But.of_upon ((Upon.refl b w).setAt (.inl rfl) u)).imp (fun i _ e=>e▸hb)
theorem But.alloc{S:Nat→Prop}{a w:World}(h:But S a w)(o:Obj):But S a (w.alloc o):=h.then (But.of_below ((Zg _ _).alloc (Zc _) o)) (fun _ _ t=>t)
theorem But.own{S:Nat→Prop}{w w':World}{base:Nat}{e:TypeId}{size n:Nat}{v:Value}{xs:List Value}(h:But S w w')(f:w.ownsRow base e size v n xs)(j:∀k,v.ownBlock=some k→¬S k):w'.ownsRow base e size v n xs:=by
 refine⟨f.1,?_⟩;rcases f.2 with hn|⟨g,cap,cur,rfl,hb,hgg,rest⟩
 ·exact .inl hn
 exact .inr ⟨g,cap,cur,rfl,hb,(h.block g (Zq.1 hgg).1 (j g rfl)).trans hgg,rest⟩
structure Fam (w:World) (base:Nat) (e:TypeId) (vs:List Value) (xss:List (List Value)):Prop where
 len:vs.length=xss.length
 own:∀(i:Nat)(v:Value)(xs:List Value),vs[i]?=some v→xss[i]?=some xs→w.ownsRow base e 1 v xs.length xs
 dis:∀(i j:Nat)(v u:Value)(k:Nat),vs[i]?=some v→vs[j]?=some u→v.ownBlock=some k→u.ownBlock=some k→i=j
theorem Fam.block{w:World}{base:Nat}{e:TypeId}{vs:List Value}{f:List (List Value)}(h:Fam w base e vs f){i:Nat}{v:Value}(g:vs[i]?=some v):∀k,v.ownBlock=some k→base≤k∧k<w.heap.size:=by
 have hi:i<f.length:=by rw[←h.len];exact(ZA.1 g).1
 exact(h.own i v _ g (Ze hi)).lt
theorem Fam.but{w w':World}{base:Nat}{e:TypeId}{vs:List Value}{xss:List (List Value)}(h:Fam w base e vs xss){S:Nat→Prop}(hb:But S w w')(hS:∀(i:Nat)(v:Value)(k:Nat),vs[i]?=some v→v.ownBlock=some k→¬S k):Fam w' base e vs xss :=
 ⟨h.len,fun i v xs h1 h2=>hb.own (h.own i v xs h1 h2) (fun k hk=>hS i v k h1 hk),h.dis⟩
theorem Fam.below{w w':World}{base:Nat}{e:TypeId}{vs:List Value}{xss:List (List Value)}(h:Fam w base e vs xss)(hb:Below w.heap.size w w'):Fam w' base e vs xss :=
 h.but (But.of_below (S:=fun _=>False) hb) (fun _ _ _ _ _ hf=>hf)
theorem Fam.butB{w w':World}{base:Nat}{e:TypeId}{vs:List Value}{xss:List (List Value)}(h:Fam w base e vs xss){S:Nat→Prop}(hb:But S w w')(hS:∀k,S k→k<base):Fam w' base e vs xss :=
 h.but hb (fun i v k hv hk hs=>by have h1:=(h.block hv k hk).1;have h2:=hS k hs;omega)
theorem Fam.set{w:World}{base:Nat}{e:TypeId}{vs:List Value}{xss:List (List Value)}(h:Fam w base e vs xss){b o:Nat}(hb:b<base)(u:Value):Fam (w.setCell ⟨b,o,none⟩ u) base e vs xss :=
 h.butB (But.set (S:=fun k=>k=b) rfl u) (fun k hk=>oq)
theorem Fam.put{w w':World}{base:Nat}{e:TypeId}{vs:List Value}{y:List (List Value)}(h:Fam w base e vs y){i:Nat}{v v':Value}{xs':List Value}(hi:vs[i]?=some v)(E:But (fun k=>v.ownBlock=some k∨k<base) w w')
  (F:w'.ownsRow base e 1 v' xs'.length xs')(D:∀k,v'.ownBlock=some k→v.ownBlock=some k∨w.heap.size≤k):Fam w' base e (vs.set i v') (y.set i xs'):=by
 have z:=(ZA.1 hi).1;refine⟨by simp[h.len],?_,?_⟩
 ·intro j u G f g;by_cases q:j=i
  ·subst q;rw[List.getElem?_set_self z] at f;rw[List.getElem?_set_self (by rw[←h.len];exact z)] at g
   cases f
   cases g
   exact F
  rw[List.getElem?_set_ne (fun e=>q e.symm)] at f g;refine E.own (h.own j u G f g) (fun k hk hs=>?_);rcases hs with hs|hs
  ·exact q (h.dis j i u v k f hi hk hs)
  have:=(h.block f k hk).1;omega
 intro j l u x k f g A C;by_cases q:j=i
 ·subst q;rw[List.getElem?_set_self z] at f
  cases f
  by_cases m:l=j
  ·exact m.symm
  rw[List.getElem?_set_ne (fun e=>m e.symm)] at g;rcases D k A with h3|h3
  ·exact h.dis j l v x k hi g h3 C
  have:=(h.block g k C).2;omega
 rw[List.getElem?_set_ne (fun e=>q e.symm)] at f;by_cases m:l=i
 ·subst m;rw[List.getElem?_set_self z] at g
  cases g
  rcases D k C with h3|h3
  ·exact h.dis j l u v k f hi A h3
  have:=(h.block f k A).2;omega
 rw[List.getElem?_set_ne (fun e=>m e.symm)] at g;exact h.dis j l u x k f g A C
theorem Fam.nils(w:World)(base:Nat)(e:TypeId)(n:Nat):Fam w base e (List.replicate n (.slice none 0 0)) (List.replicate n []):=by
 refine⟨by simp,?_,?_⟩
 ·intro i v x f g;rw[List.getElem?_replicate] at f g;split at f
  ·rename_i hlt
   rw[Z2 hlt] at g
   cases f
   cases g
   exact Yf w base e 1
  cases f
 intro i j v u k f g m q;rw[List.getElem?_replicate] at f;split at f
 ·cases f
  cases m
 cases f
def ints(l:List Int):List Value:=l.map (fun x=>.int .i64 x)
theorem JC(l:List Int):(ints l).length=l.length:=by simp[ints]
theorem ints_at{l:List Int}{i:Nat}(h:i<l.length):(ints l)[i]?=some (.int .i64 (l.getD i 0)):=by
 unfold ints;rw[List.getElem?_map,Ze h,Zf,Ze h];rfl
theorem ints_set(l:List Int)(i:Nat)(x:Int):(ints l).set i (.int .i64 x)=ints (l.set i x):=by unfold ints;rw[List.map_set]
theorem J5(l:List Int)(x:Int):ints l++[.int .i64 x]=ints (l++[x]):=by simp[ints]
theorem xh{w:World}{base g n cap:Nat}{e:TypeId}{xs:List Value}(h:w.ownsRow base e 1 (.slice (some ⟨g,0,none⟩) n cap) n xs)(j:Nat)(u:Value)(f:j<n):(w.setCell ⟨g,j,none⟩ u).ownsRow base e 1 (.slice (some ⟨g,0,none⟩) n cap) n (xs.set j u):=by
 rcases h.2 with ⟨h1,_⟩|⟨g',cap',cur,h1,hb,hg,hnc,hcm,hcs,htk⟩
 ·cases h1
 injection h1 with h1 _ h3
 injection h1 with h1
 injection h1 with h1
 subst h1;subst h3;refine⟨by simp[h.1],.inr ⟨g,cap,cur.setIfInBounds j u,rfl,hb,Zj w g j cur e u hg,hnc,hcm,by simp[hcs],?_⟩⟩;rw[←htk,Array.toList_setIfInBounds,Z8,List.take_set]
theorem Zco{w:World}{base g n m cap:Nat}{e:TypeId}{xs:List Value}(h:w.ownsRow base e 1 (.slice (some ⟨g,0,none⟩) n cap) n xs)(f:m≤n):w.ownsRow base e 1 (.slice (some ⟨g,0,none⟩) m cap) m (xs.take m):=by
 rcases h.2 with ⟨h1,_⟩|⟨g',cap',cur,h1,hb,hg,hnc,hcm,hcs,htk⟩
 ·cases h1
 injection h1 with h1 _ h3
 injection h1 with h1
 injection h1 with h1
 subst h1;subst h3;refine⟨by rw[Yb,h.1];omega,.inr ⟨g,cap,cur,rfl,hb,hg,oq,hcm,hcs,?_⟩⟩;rw[←htk,List.take_take,show min m (n*1)=m*1 by omega]
def mkD(D:Nat):Deferred:={ target:=.collected D,args:=#[] }
def ZeP{α:Type}(F:Fence)(n:Nat)(P:Program)(g:Nat)(lb:Array Value)(encs:α→Array Value)(R:World→Prop)(Ok:List α→α→World→Prop)(Kp:World→World→Prop)(S:List α→Prop)(w:World):Prop :=
 ∀(l:Nat)(J:List α→World→Prop)(W:World),Below w.heap.size w W→OwnFrom W.heap.size J→(∀pre W1,J pre W1→R W1) →
  (∀pre x W1,J pre W1→Ok pre x W1→YieldAt F (n-1) P l (encs x) W1 fun e W'=>e=.returned (.bool true)∧J (pre++[x]) W'∧Kp W1 W') →
  J [] W→CallsIn F n P g (#[.func (.yield l) #[] #[]]++lb) W fun e W'=>(∃v,e=.returned v)∧∃xs,S xs∧J xs W'
theorem xk{α:Type}{F:Fence}{n:Nat}{P:Program}{g:Operand}{ps:Array Tmp}{assign body:Code}{Q:Exit→Act→World→Prop}{a:Act}{w:World}(aq:F.round=none)(h1:1≤n){gf:Nat}{lb:Array Value}
  (hg:a.eval g=.func (.func gf) #[] lb)(af:F.fn gf)(eg:∀args w,(callFunc gf args).run P w=.ok (.enter gf args) w){encs:α→Array Value}{R:World→Prop}{Ok:List α→α→World→Prop}{Kp:World→World→Prop}{S:List α→Prop}
  (ac:ZeP F (n-1) P gf lb encs R Ok Kp S w)(G:∀{A B C:World},Kp A B→Kp B C→Kp A C)(T:∀(W:World)(l:Nat)(o o':Obj),w.heap.size≤l→W.heap[l]?=some o→o.isCells=false→Kp W (W.putObj l o'))(ai:∀W W':World,Below W.heap.size W W'→Kp W W')(ap:∀x,(encs x).size=ps.size)
  (I:List α→World→Prop)(M:OwnFrom w.heap.size I)(ag:∀pre W,I pre W→R W)(h0:I [] w)
  (Ax:List α→α→Act→World→Prop)(ae:∀pre x q,OwnFrom w.heap.size (fun(_:Unit) W=>Ax pre x q W))
  (f:∀(l:Nat)(pre:List α)(x:α)(W:World)(K:Act→World→Prop),I pre W→Ok pre x W→(∀q W',Below W.heap.size W W'→I pre W'→Ax pre x q W'→K q W') →
   assign.wpIn (F.inRound l) (n-1-1) P (Exit.then K (fun _ _ _=>False)) { tmps:=(ps.zip (encs x)).foldl (fun t (p,v)=>t.setIfInBounds p v) a.tmps,defers:=[] } W)
  (H:∀(l:Nat)(pre:List α)(x:α)(q:Act)(W:World),w.heap.size≤l→(∃r,W.heap[l]?=some (.loop r))→I pre W→Ax pre x q W →
   body.wpIn (F.inRound l) (n-1-1) P (ownPostG w.heap.size Kp I (fun _ _ _=>False) (pre++[x]) W) q W)
  (J:∀(D:Nat)(xs:List α)(W:World),w.heap.size≤D→S xs→I xs W→W.heap[D]?=some (.deferred (some []))→Q .normal { a with defers:=mkD D::a.defers } W) :
  (Code.rangeFunc g ps assign body).wpIn F n P Q a w:=by
 refine wpIn_rangeFunc (fun fn hfn=>?_);rw[aq];let R:LoopState→Option Code→Loop:=fun st pe=>{ state:=st,pending:=pe,fn,tmps:=a.tmps,params:=ps,assign,body,defers:=w.heap.size }
 let W1:World:=(w.alloc (.deferred (some []))).alloc (.loop (R .ready none));have au:W1.heap.size=w.heap.size+2:=by simp[W1]
 have hb1:Below w.heap.size w W1:=((Zg _ w).alloc (Zc _) _).alloc (by simp) _;have hL:W1.heap[w.heap.size+1]?=some (.loop (R .ready none)):=by
  have:=World.alloc_heap_new (w.alloc (.deferred (some []))) (.loop (R .ready none))
  rwa [Zu] at this
 have hD:W1.heap[w.heap.size]?=some (.deferred (some [])):=(Za _ _ _ (by simp)).trans (World.alloc_heap_new w _);refine⟨w.heap.size+1,[mkD w.heap.size],W1,{ target:=.fn (.func gf) lb,args:=#[.func (.yield (w.heap.size+1)) #[] #[]] },W1,gf,#[.func (.yield (w.heap.size+1)) #[] #[]]++lb,W1,run_enterLoop_outer _ _ _ _ _,?_,?_,?_,fun _=>h1,?_⟩
 ·simp only[resolve,hg];simp[go_sem]
 ·intro f' V;simp[Target.leads] at V;subst V;exact af
 ·simp[invoke,go_sem,eg]
 have E:∀{A B:World}{row:Option Nat}{k:Nat}{o:Obj},A.grownBy B row→(∀r,row=some r→W1.heap.size≤r∧∃o:Obj,A.heap[r]?=some o∧o.isCells=false)→k<W1.heap.size→A.heap[k]?=some o→B.heap[k]?=some o:=by
  intro A B row k o j z X ho;refine(j.block k (Zq.1 ho).1 (fun e=>?_)).trans ho;have:=(z k e.symm).1;omega
 have ab:∀{A:World}{row:Option Nat},(∀r,row=some r→W1.heap.size≤r∧∃o:Obj,A.heap[r]?=some o∧o.isCells=false)→(∀r,row=some r→w.heap.size≤r∧∃o:Obj,A.heap[r]?=some o∧o.isCells=false) :=
  fun z r e=>⟨by have:=(z r e).1;omega,(z r e).2⟩
 refine(ac (w.heap.size+1) (fun pre W=>(I pre W∧W.heap[w.heap.size+1]?=some (.loop (R .ready none)))∧W.heap[w.heap.size]?=some (.deferred (some []))) W1 hb1
  (fun s A B row hs j z=>⟨⟨M s A B row hs.1.1 j (ab z),E j z oq hs.1.2⟩,E j z oq hs.2⟩)
  (fun pre W1 h=>ag pre W1 h.1.1) ?_ ⟨⟨M.alloc _ (M.alloc _ h0),hL⟩,hD⟩).mono ?_
 ·rintro pre x W ⟨⟨hi,L⟩,X⟩ ao;refine⟨fn,_,assign,body,run_yield (P:=P) (args:=encs x) L (ap x),roundIn_of_wpIn hfn (f _ pre x W _ hi ao (fun q Wa hba hia hax=>?_))⟩;have m:=(hba.block _ (Zq.1 L).1).trans L;have al:=(hba.block _ (Zq.1 X).1).trans X;have an:w.heap.size+1<Wa.heap.size:=(Zq.1 m).1;have ar:w.heap.size+1<W.heap.size:=(Zq.1 L).1;refine⟨_,run_beginRound m rfl,?_⟩;have aa:(Wa.putObj (w.heap.size+1) (.loop { R .ready none with state:=.busy })).heap[w.heap.size+1]?=some (.loop { R .ready none with state:=.busy }):=World.putObj_heap_same an;have am:(Wa.putObj (w.heap.size+1) (.loop { R .ready none with state:=.busy })).heap[w.heap.size]?=some (.deferred (some [])):=(World.putObj_heap_other oq).trans al;have ah:Kp W Wa:=ai _ _ hba;have U:Kp W (Wa.putObj (w.heap.size+1) (.loop { R .ready none with state:=.busy })):=G ah (T _ _ _ _ oq m rfl);refine wpIn_mono (H _ pre x q _ oq ⟨_,aa⟩ (M.putObj _ hia oq m rfl) ((ae pre x q).putObj (s:=()) _ hax oq m rfl)) ?_;rintro e a3 W3 O
  cases e with
  | normal =>
   obtain⟨Y,Z,ak⟩:=O;have y:=Y.same _ _ oq aa rfl;have aj:=Y.same _ _ (Zc _) am rfl;exact⟨_,_,run_endRound (P:=P) none y,rfl,⟨⟨M.putObj _ ak oq y rfl,World.putObj_heap_same (Zq.1 y).1⟩,(World.putObj_heap_other oq).trans aj⟩,G (G U Z) (T _ _ _ _ oq y rfl)⟩
  | ret=>exact O.2.elim
  | exit id=>exact O.2.elim
  | goto t=>exact O.2.elim
  | panic ch=>exact O.elim
  | outgrown=>exact O.elim
 rintro e W2 ⟨⟨v,rfl⟩,xs,hS,⟨hi,L⟩,X⟩;exact⟨none,_,run_endLoop (P:=P) L (by simp[R]),J _ xs _ (Zc _) hS (M.putObj _ hi oq L rfl) ((World.putObj_heap_other oq).trans X)⟩
def slt(t:Array Value)(k:Nat):Value:=t.getD k undef
theorem JZ{t:Array Value}{n:Nat}{l:List Value}(h:t.size=n)(f:l=(List.range n).map (slt t):=by rfl):t=l.toArray:=by
 subst f;apply Array.ext';rw[List.toList_toArray];refine List.ext_getElem (by simp[h]) (fun i hi1 hi2=>?_);rw[List.getElem_map,List.getElem_range];unfold slt;have hi:i<t.size:=by simpa using hi1
 simp[Array.getD,hi]
theorem Za8{t:Array Value}(h:t.size=26):t=#[slt t 0,slt t 1,slt t 2,slt t 3,slt t 4,slt t 5,slt t 6,slt t 7,slt t 8,slt t 9,slt t 10,slt t 11,slt t 12,slt t 13,slt t 14,slt t 15,slt t 16,slt t 17,slt t 18,slt t 19,slt t 20,slt t 21,slt t 22,slt t 23,slt t 24,slt t 25]:=JZ h
theorem Za9{t:Array Value}(h:t.size=44):t=#[slt t 0,slt t 1,slt t 2,slt t 3,slt t 4,slt t 5,slt t 6,slt t 7,slt t 8,slt t 9,slt t 10,slt t 11,slt t 12,slt t 13,slt t 14,slt t 15,slt t 16,slt t 17,slt t 18,slt t 19,slt t 20,slt t 21,slt t 22,slt t 23,slt t 24,slt t 25,slt t 26,slt t 27,slt t 28,slt t 29,slt t 30,slt t 31,slt t 32,slt t 33,slt t 34,slt t 35,slt t 36,slt t 37,slt t 38,slt t 39,slt t 40,slt t 41,slt t 42,slt t 43]:=JZ h
theorem yA{t:Array Value}(h:t.size=93):t=#[slt t 0,slt t 1,slt t 2,slt t 3,slt t 4,slt t 5,slt t 6,slt t 7,slt t 8,slt t 9,slt t 10,slt t 11,slt t 12,slt t 13,slt t 14,slt t 15,slt t 16,slt t 17,slt t 18,slt t 19,slt t 20,slt t 21,slt t 22,slt t 23,slt t 24,slt t 25,slt t 26,slt t 27,slt t 28,slt t 29,slt t 30,slt t 31,slt t 32,slt t 33,slt t 34,slt t 35,slt t 36,slt t 37,slt t 38,slt t 39,slt t 40,slt t 41,slt t 42,slt t 43,slt t 44,slt t 45,slt t 46,slt t 47,slt t 48,slt t 49,slt t 50,slt t 51,slt t 52,slt t 53,slt t 54,slt t 55,slt t 56,slt t 57,slt t 58,slt t 59,slt t 60,slt t 61,slt t 62,slt t 63,slt t 64,slt t 65,slt t 66,slt t 67,slt t 68,slt t 69,slt t 70,slt t 71,slt t 72,slt t 73,slt t 74,slt t 75,slt t 76,slt t 77,slt t 78,slt t 79,slt t 80,slt t 81,slt t 82,slt t 83,slt t 84,slt t 85,slt t 86,slt t 87,slt t 88,slt t 89,slt t 90,slt t 91,slt t 92]:=JZ h
structure Mk (lo hi:Nat) (ds:List Deferred) (W:World):Prop where
 is:∃l:List Nat,ds=l.map mkD∧l.Nodup∧∀D∈l,(lo≤D∧D<hi)∧W.heap[D]?=some (.deferred (some []))
theorem Mk.nil(lo hi:Nat)(W:World):Mk lo hi [] W:=⟨[],rfl,List.nodup_nil,fun D h=>by cases h⟩
theorem Mk.keep{lo hi:Nat}{g:List Deferred}{W W':World}(h:Mk lo hi g W)(q:∀(k:Nat)(o:Obj),lo≤k→k<hi→W.heap[k]?=some o→o.isCells=false→W'.heap[k]?=some o):Mk lo hi g W':=by
 obtain⟨l,j,m,f⟩:=h.is;exact⟨l,j,m,fun D hD=>⟨(f D hD).1,q D _ (f D hD).1.1 (f D hD).1.2 (f D hD).2 rfl⟩⟩
theorem Mk.below{lo hi:Nat}{ds:List Deferred}{W W':World}(h:Mk lo hi ds W)(hb:Below W.heap.size W W'):Mk lo hi ds W':=h.keep (fun k o _ _ hk _=>(hb.block k (Zb hk)).trans hk)
theorem Mk.from{lo hi:Nat}{ds:List Deferred}{W W':World}(h:Mk lo hi ds W)(hb:KeepsFrom lo W W'):Mk lo hi ds W':=h.keep (fun k o hlo _ hk hc=>hb.same k o hlo hk hc)
theorem Mk.up{lo hi f:Nat}{j:List Deferred}{W:World}(h:Mk lo hi j W)(v:hi≤f):Mk lo f j W:=by
 obtain⟨l,m,q,g⟩:=h.is;exact⟨l,m,q,fun D hD=>⟨⟨(g D hD).1.1,Zd (g D hD).1.2 v⟩,(g D hD).2⟩⟩
theorem Mk.own{β:Type}{lo hi B:Nat}{ds:List Deferred}(hB:hi≤B):OwnFrom B (fun(_:β) W=>Mk lo hi ds W):=fun s A C row hs hg hrw =>
 hs.keep (fun k o _ hk ho hc=>(hg.block k (Zb ho) (fun e=>by have:=(hrw k e.symm).1;omega)).trans ho)
theorem Mk.cons{lo hi:Nat}{j:List Deferred}{W:World}(h:Mk lo hi j W){D:Nat}(g:lo≤D)(x:hi≤D)(m:W.heap[D]?=some (.deferred (some []))):Mk lo W.heap.size (mkD D::j) W:=by
 obtain⟨l,q,v,f⟩:=h.is;refine⟨D::l,by rw[q];rfl,List.nodup_cons.2 ⟨fun hm=>by have:=(f D hm).1.2;omega,v⟩,fun E hE=>?_⟩;rcases ZR.1 hE with rfl|hE
 ·exact⟨⟨g,Zb m⟩,m⟩
 exact⟨⟨(f E hE).1.1,Zb (f E hE).2⟩,(f E hE).2⟩
structure MkW (lo:Nat) (W W':World):Prop where
 os:W'.os=W.os
 tape:W'.tape=W.tape
 output:W'.output=W.output
 size:W'.heap.size=W.heap.size
 low:∀k,k<lo→W'.heap[k]?=W.heap[k]?
 cells:∀(k:Nat)(o:Obj),W.heap[k]?=some o→o.isCells=true→W'.heap[k]?=some o
theorem MkW.refl(lo:Nat)(W:World):MkW lo W W:=⟨rfl,rfl,rfl,rfl,fun _ _=>rfl,fun _ _ h _=>h⟩
theorem MkW.below{lo:Nat}{W W':World}(h:MkW lo W W'):Below lo W W':=⟨h.os,h.tape,h.output,Nat.le_of_eq h.size.symm,fun k hk=>h.low k hk⟩
theorem U4{F:Fence}{n:Nat}{P:Program}{fn:Func}{tmps:Array Value}{R:Ending→World→Prop}{lo:Nat}:∀(l:List Nat)(W0 W:World),MkW lo W0 W→l.Nodup→(∀D∈l,lo≤D∧W.heap[D]?=some (.deferred (some []))) →
  (∀W',MkW lo W0 W'→∃v,(results fn tmps).run P W'=.ok v W'∧R (.returned v) W')→LeavesInM F n P fn tmps R (l.map mkD) .returning W
 | [],W0,W,hw,_,_,h=>h W hw
 | D::l,W0,W,hw,hn,hD,h=>by
  have h1:=hD D (by simp);have hlt:=Zb h1.2;refine⟨by simp,.inl ⟨D,_,rfl,run_takeDeferred h1.2,?_⟩⟩;refine U4 l W0 _ ⟨hw.os,hw.tape,hw.output,by simpa using hw.size,fun k hk=>(World.putObj_heap_other oq).trans (hw.low k hk),fun k o ho hc=>?_⟩ (List.nodup_cons.1 hn).2 (fun E hE=>⟨(hD E (by simp[hE])).1,(World.putObj_heap_other (fun e=>?_)).trans (hD E (by simp[hE])).2⟩) h
  ·have h2:=hw.cells k o ho hc;refine(World.putObj_heap_other (fun e=>?_)).trans h2;subst e;rw[h1.2] at h2;injection h2 with h2
   subst h2
   cases hc
  subst e;exact(List.nodup_cons.1 hn).1 hE
theorem Mk.leaves{F:Fence}{n:Nat}{P:Program}{g:Func}{tmps:Array Value}{R:Ending→World→Prop}{lo hi:Nat}{f:List Deferred}{W:World}(h:Mk lo hi f W)
  (q:∀W',MkW lo W W'→∃v,(results g tmps).run P W'=.ok v W'∧R (.returned v) W'):LeavesInM F n P g tmps R f .returning W:=by
 obtain⟨l,rfl,m,j⟩:=h.is;exact U4 l W W (MkW.refl _ _) m (fun D hD=>⟨(j D hD).1.1,(j D hD).2⟩) q
structure AD where
 src:Int
 ops:List (Int × Int × Int)
structure TD where
 node:Int
 per:Int
 ph:Int
 args:List AD
structure LD where
 per:Int
 ph:Int
 arg:AD
 dl:Int
structure NB where
 bud:Int
 nps:Nat
structure FD where
 ins:List (Int × Int)
 nods:List NB
 tasks:List TD
 tells:List LD
def Zc8(w:World)(b o:Nat)(c:Int × Int):Prop:=w.cell? ⟨b,o,none⟩=some (.int .i64 c.1)∧w.cell? ⟨b,o+1,none⟩=some (.int .i64 c.2)
def OpR(w:World)(b o:Nat)(x:Int × Int × Int):Prop:=w.cell? ⟨b,o,none⟩=some (.int .i64 x.1)∧w.cell? ⟨b,o+1,none⟩=some (.int .i64 x.2.1)∧w.cell? ⟨b,o+2,none⟩=some (.int .i64 x.2.2)
def xG(w:World)(b o:Nat)(a:AD):Prop:=w.cell? ⟨b,o,none⟩=some (.int .i64 a.src)∧∃ad cap,w.cell? ⟨b,o+1,none⟩=some (.slice ad a.ops.length cap)∧Row OpR 3 w a.ops ad
def gS(w:World)(b o:Nat)(t:TD):Prop:=w.cell? ⟨b,o,none⟩=some (.int .i64 t.node)∧w.cell? ⟨b,o+1,none⟩=some (.int .i64 t.per)∧w.cell? ⟨b,o+2,none⟩=some (.int .i64 t.ph)∧∃ad cap,w.cell? ⟨b,o+3,none⟩=some (.slice ad t.args.length cap)∧Row xG 2 w t.args ad
def Zdf(w:World)(b o:Nat)(t:LD):Prop:=w.cell? ⟨b,o,none⟩=some (.int .i64 t.per)∧w.cell? ⟨b,o+1,none⟩=some (.int .i64 t.ph)∧w.cell? ⟨b,o+2,none⟩=some (.int .i64 t.arg.src)∧w.cell? ⟨b,o+4,none⟩=some (.int .i64 t.dl)∧∃ad cap,w.cell? ⟨b,o+3,none⟩=some (.slice ad t.arg.ops.length cap)∧Row OpR 3 w t.arg.ops ad
def NdR(w:World)(b o:Nat)(n:NB):Prop:=∃(nm:ByteArray)(pa:Option Addr)(pc:Nat)(k:Int)(nm2:ByteArray)(n2 d2:Int)(ea:Option Addr)(el ec:Nat)(a2 a:Int),
 w.cell? ⟨b,o,none⟩=some (.string nm)∧w.cell? ⟨b,o+1,none⟩=some (.slice pa n.nps pc)∧w.cell? ⟨b,o+2,none⟩=some (.int .i64 n.bud)∧w.cell? ⟨b,o+3,none⟩=some (.int .i64 k)∧w.cell? ⟨b,o+4,none⟩=some (.string nm2)∧w.cell? ⟨b,o+5,none⟩=some (.int .i64 n2) ∧
 w.cell? ⟨b,o+6,none⟩=some (.int .i64 d2)∧w.cell? ⟨b,o+7,none⟩=some (.slice ea el ec)∧w.cell? ⟨b,o+8,none⟩=some (.int .i64 a2)∧w.cell? ⟨b,o+9,none⟩=some (.int .i64 a)
theorem ZeY:Sta Zc8:=fun w w' b o x hb hlt h=>⟨(hb.cell (p:=⟨b,_,none⟩) hlt).trans h.1,(hb.cell (p:=⟨b,_,none⟩) hlt).trans h.2⟩
theorem J8:Sta OpR:=fun w w' b o x hb hlt h=>⟨(hb.cell (p:=⟨b,_,none⟩) hlt).trans h.1,(hb.cell (p:=⟨b,_,none⟩) hlt).trans h.2.1,(hb.cell (p:=⟨b,_,none⟩) hlt).trans h.2.2⟩
theorem vm:Sta xG:=fun w w' b o x hb hlt h=>by
 obtain⟨h0,ad,cap,h1,h2⟩:=h;exact⟨(hb.cell (p:=⟨b,_,none⟩) hlt).trans h0,ad,cap,(hb.cell (p:=⟨b,_,none⟩) hlt).trans h1,h2.below J8 hb⟩
theorem zd:Sta gS:=fun w w' b o x hb hlt h=>by
 obtain⟨h0,h1,h2,ad,cap,h3,h4⟩:=h;exact⟨(hb.cell (p:=⟨b,_,none⟩) hlt).trans h0,(hb.cell (p:=⟨b,_,none⟩) hlt).trans h1,(hb.cell (p:=⟨b,_,none⟩) hlt).trans h2,ad,cap,(hb.cell (p:=⟨b,_,none⟩) hlt).trans h3,h4.below vm hb⟩
theorem ZcY:Sta Zdf:=fun w w' b o x hb hlt h=>by
 obtain⟨h0,h1,h2,h3,ad,cap,h4,h5⟩:=h;exact⟨(hb.cell (p:=⟨b,_,none⟩) hlt).trans h0,(hb.cell (p:=⟨b,_,none⟩) hlt).trans h1,(hb.cell (p:=⟨b,_,none⟩) hlt).trans h2,(hb.cell (p:=⟨b,_,none⟩) hlt).trans h3,ad,cap,(hb.cell (p:=⟨b,_,none⟩) hlt).trans h4,h5.below J8 hb⟩
theorem Zey:Sta NdR:=fun w w' b o x hb hlt h=>by
 obtain⟨nm,pa,pc,k,nm2,n2,d2,ea,el,ec,a2,a,h0,h1,h2,h3,h4,h5,h6,h7,h8,h9⟩:=h;have hc:=fun o=>hb.cell (p:=⟨b,o,none⟩) hlt
 exact⟨nm,pa,pc,k,nm2,n2,d2,ea,el,ec,a2,a,(hc _).trans h0,(hc _).trans h1,(hc _).trans h2,(hc _).trans h3,(hc _).trans h4,(hc _).trans h5,(hc _).trans h6,(hc _).trans h7,(hc _).trans h8,(hc _).trans h9⟩
structure FAP (w:World) (f:FD) (ai an aT al:Option Addr):Prop where
 ins:Row Zc8 2 w f.ins ai
 nods:Row NdR 10 w f.nods an
 tasks:Row gS 4 w f.tasks aT
 tells:Row Zdf 5 w f.tells al
 lens:f.ins.length≤1000∧f.nods.length≤1000∧f.tasks.length≤1000∧f.tells.length≤1000
 args:∀t∈f.tasks,t.args.length≤1000∧∀a∈t.args,a.ops.length≤1000∧I64 a.src
 tops:∀t∈f.tells,t.arg.ops.length≤1000∧I64 t.arg.src
theorem FAP.below{w w':World}{f:FD}{ai an aT al:Option Addr}(h:FAP w f ai an aT al)(hb:Below w.heap.size w w'):FAP w' f ai an aT al :=
 ⟨h.ins.below ZeY hb,h.nods.below Zey hb,h.tasks.below zd hb,h.tells.below ZcY hb,h.lens,h.args,h.tops⟩
def fv(f:FD)(ai an aT al:Option Addr)(ci cn ct cl:Nat):Value:=.agg #[.slice ai f.ins.length ci,.slice an f.nods.length cn,.slice aT f.tasks.length ct,.slice al f.tells.length cl]
def XR(f:FD)(i:Int):Option (Int × Int):=if i<0 then none else if i<(f.ins.length:Int) then f.ins[i.toNat]? else (f.tasks[(i-(f.ins.length:Int)).toNat]?).map (fun t=>(t.per,t.ph))
def VO(o:Option (Int × Int)):Value:=.tuple #[.agg #[.int .i64 (o.getD (0,0)).1,.int .i64 (o.getD (0,0)).2],.bool o.isSome]
theorem gK{f:FD}{i:Int}(h:i<0):XR f i=none:=Z2 h
theorem ZcR{f:FD}{k:Nat}(h:k<f.ins.length):XR f (k:Int)=some f.ins[k]:=by
 unfold XR;rw[Z1 oq,Z2 oq,ZQ,Ze h]
theorem Kf{f:FD}{k:Nat}(h:k<f.tasks.length):XR f ((f.ins.length:Int)+(k:Int))=some (f.tasks[k].per,f.tasks[k].ph):=by
 unfold XR;rw[Z1 oq,Z1 oq,show((f.ins.length:Int)+(k:Int)-(f.ins.length:Int)).toNat=k by omega,Ze h];rfl
theorem gJ{f:FD}{i:Int}(g:¬i<0)(j:¬i<(f.ins.length:Int))(m:¬i-(f.ins.length:Int)<(f.tasks.length:Int)):XR f i=none:=by
 unfold XR;rw[Z1 g,Z1 j,Yc oq];rfl
theorem Uy{w:World}(f:FD)(F an E G:Option Addr)(R T U cl:Nat)(X:FAP w f F an E G)(i:Int)(I:I64 i) :
  Calls prog 76 #[fv f F an E G R T U cl,.int .i64 i] w fun x w'=>x=.returned (VO (XR f i))∧Below w.heap.size w w':=by
 have Z:=X.lens;have HF:=hid X;unfold I64 at I;clear X;unfold fv;obtain⟨y,g⟩:=ez (XR f i);rw[g];go_enter func76,ntmps76;go_upto_region 1 with fail
 obtain⟨D,q⟩:∃D,(w.alloc (.cells #[.slice F f.ins.length R,.slice an f.nods.length T,.slice E f.tasks.length U,.slice G f.tells.length cl] 34)).alloc (.cells #[.int .i64 0,.int .i64 0] 62)=D:=⟨_,rfl⟩;rw[q];have hB:Below w.heap.size w D:=by rw[←q];exact bq
 have L:D.heap[w.heap.size]?=some (.cells #[.slice F f.ins.length R,.slice an f.nods.length T,.slice E f.tasks.length U,.slice G f.tells.length cl] 34 (0,0)):=by rw[←q];exact(Za _ _ _ (by simp)).trans (Yw w _)
 have M:D.heap[w.heap.size+1]?=some (.cells #[.int .i64 0,.int .i64 0] 62 (0,0)):=by rw[←q];simpa using Yw (w.alloc (.cells #[.slice F f.ins.length R,.slice an f.nods.length T,.slice E f.tasks.length U,.slice G f.tells.length cl] 34)) (.cells #[.int .i64 0,.int .i64 0] 62)
 obtain⟨⟨x0,x1,x2,x3⟩,xf⟩:=Yx L;obtain⟨⟨q0,q1⟩,qf⟩:=YD M;have HB:=hid hB;clear q hB L M;by_cases h0:i<0
 ·obtain rfl:y=none:=g.symm.trans (gK h0);clear g;have V:¬i≥0:=oq;go_wp2;exact Zl (v:=VO none) (by unfold VO;simp only[results,results76];go_simp) rfl ⟨rfl,bq⟩
 have V:i≥0:=oq;by_cases h1:i<(f.ins.length:Int)
 ·obtain⟨k,rfl⟩:∃k:Nat,i=(k:Int):=⟨i.toNat,oq⟩;have J:k<f.ins.length:=oq;obtain⟨b,o,rfl,hb,j,m⟩:=HF.out.ins.at J;obtain⟨⟨O,H⟩,A⟩:∃c,f.ins[k]=c:=⟨_,rfl⟩;obtain rfl:y=some (O,H):=g.symm.trans ((ZcR J).trans (Z3 some A));rw[A] at j m;simp only at j m;have y0:=(HB.out.cell (p:=⟨b,o+k*2,none⟩) hb).trans j;have y1:=(HB.out.cell (p:=⟨b,o+k*2+1,none⟩) hb).trans m;have Y:(0:Int)≤(k:Int):=oq;clear j m A g;go_wp2;exact Zl (v:=VO (some (O,H))) (by unfold VO;simp only[Z9,Option.isSome_some];simp only[results,results76];go_simp) rfl ⟨rfl,bq⟩
 have ae:i≥(f.ins.length:Int):=oq;by_cases h2:i-(f.ins.length:Int)<(f.tasks.length:Int)
 ·obtain⟨k,rfl⟩:∃k:Nat,i=(f.ins.length:Int)+(k:Int):=⟨(i-(f.ins.length:Int)).toNat,oq⟩;have J:k<f.tasks.length:=oq;obtain⟨b,o,rfl,hb,_,j,m,_⟩:=HF.out.tasks.at J;obtain⟨O,C⟩:=ez (f.tasks[k].per);obtain⟨H,z⟩:=ez (f.tasks[k].ph);obtain rfl:y=some (O,H):=g.symm.trans ((Kf J).trans (by rw[C,z]));rw[C] at j;rw[z] at m;have y0:=(HB.out.cell (p:=⟨b,o+k*4+1,none⟩) hb).trans j;have y1:=(HB.out.cell (p:=⟨b,o+k*4+2,none⟩) hb).trans m;have Y:(0:Int)≤(k:Int):=oq;have af:(k:Int)<(f.tasks.length:Int):=oq;have aa:IntKind.i64.wrap ((f.ins.length:Int)+(k:Int)-(f.ins.length:Int))=(k:Int):=by rw[show(f.ins.length:Int)+(k:Int)-(f.ins.length:Int)=(k:Int) by omega];exact ZK _ oq
  have ab:IntKind.i64.wrap ((f.ins.length:Int)+(f.tasks.length:Int))=(f.ins.length:Int)+(f.tasks.length:Int):=ZK _ oq;have ac:(f.ins.length:Int)+(k:Int)<(f.ins.length:Int)+(f.tasks.length:Int):=oq;clear j m C z g;go_wp2;exact Zl (v:=VO (some (O,H))) (by unfold VO;simp only[Z9,Option.isSome_some];simp only[results,results76];go_simp) rfl ⟨rfl,bq⟩
 obtain rfl:y=none:=g.symm.trans (gJ h0 h1 h2);clear g;have aa:IntKind.i64.wrap (i-(f.ins.length:Int))=i-(f.ins.length:Int):=ZK _ oq;have ab:IntKind.i64.wrap ((f.ins.length:Int)+(f.tasks.length:Int))=(f.ins.length:Int)+(f.tasks.length:Int):=ZK _ oq;have ac:¬i<(f.ins.length:Int)+(f.tasks.length:Int):=oq;go_wp2;exact Zl (v:=VO none) (by unfold VO;simp only[results,results76];go_simp) rfl ⟨rfl,bq⟩
def swp(l:List Int)(i j:Nat):List Int:=(l.set i (l.getD j 0)).set j (l.getD i 0)
theorem XN(l:List Int)(i j:Nat):(swp l i j).length=l.length:=by simp[swp]
theorem J3{l:List Int}{i:Nat}(h:i<l.length):l.getD i 0∈l:=by rw[Zf,Ze h];exact Zi h
theorem QS{α:Type}{l:List α}{i:Nat}{a x:α}(h:x∈l.set i a):x∈l∨x=a:=by
 rcases List.mem_or_eq_of_mem_set h with h|h
 ·exact .inl h
 exact .inr h
theorem xy{Q:Int→Prop}{l:List Int}{i j:Nat}(hi:i<l.length)(g:j<l.length)(h:∀x∈l,Q x):∀x∈swp l i j,Q x:=by
 intro x f;unfold swp at f;rcases QS f with f|f
 ·rcases QS f with f|f
  ·exact h x f
  rw[f];exact h _ (J3 g)
 rw[f];exact h _ (J3 hi)
def upP:Nat→List Int→Nat→List Int
 | 0,l,_=>l
 | n+1,l,j=>if (j-1)/2=j then l else if l.getD j 0<l.getD ((j-1)/2) 0 then upP n (swp l ((j-1)/2) j) ((j-1)/2) else l
theorem Zem:∀(n:Nat)(l:List Int)(j:Nat),(upP n l j).length=l.length:=by
 intro n
 induction n with
 | zero=>intro l j;rfl
 | succ n ih =>
  intro l j;rw[upP];split
  ·rfl
  split
  ·rw[ih,XN]
  rfl
theorem Zel{Q:Int→Prop}:∀(n:Nat)(l:List Int)(j:Nat),j<l.length→(∀x∈l,Q x)→∀x∈upP n l j,Q x:=by
 intro n
 induction n with
 | zero=>intro l j _ h;exact h
 | succ n ih =>
  intro l j f h;rw[upP];split
  ·exact h
  split
  ·refine ih _ _ (by rw[XN];omega) (xy oq f h)
  exact h
def yZ(l:List Int)(i n:Nat):Nat:=if 2*i+2<n∧l.getD (2*i+2) 0<l.getD (2*i+1) 0 then 2*i+2 else 2*i+1
def QH:Nat→List Int→Nat→Nat→List Int
 | 0,l,_,_=>l
 | k+1,l,i,n=>if n≤2*i+1 then l else if l.getD (yZ l i n) 0<l.getD i 0 then QH k (swp l i (yZ l i n)) (yZ l i n) n else l
theorem uh{l:List Int}{i n:Nat}(h:¬n≤2*i+1):yZ l i n<n∧i<yZ l i n:=by
 unfold yZ;split<;>omega
theorem eV:∀(k:Nat)(l:List Int)(i n:Nat),(QH k l i n).length=l.length:=by
 intro k
 induction k with
 | zero=>intro l i n;rfl
 | succ k ih =>
  intro l i n;rw[QH];split
  ·rfl
  split
  ·rw[ih,XN]
  rfl
theorem eU{Q:Int→Prop}:∀(k:Nat)(l:List Int)(i n:Nat),n≤l.length→(∀x∈l,Q x)→∀x∈QH k l i n,Q x:=by
 intro k
 induction k with
 | zero=>intro l i n _ h;exact h
 | succ k ih =>
  intro l i n f h;rw[QH];split
  ·exact h
  rename_i h1
  have g:=uh (l:=l) h1;split
  ·exact ih _ _ _ (by rw[XN];exact f) (xy oq oq h)
  exact h
def Jg(l:List Int)(x:Int):List Int:=upP (l.length+1) (l++[x]) l.length
def Qj(l:List Int):List Int:=QH l.length (swp l 0 (l.length-1)) 0 (l.length-1)
def QD(l:List Int):Int × List Int:=((Qj l).getD (l.length-1) 0,(Qj l).take (l.length-1))
theorem yg(l:List Int)(x:Int):(Jg l x).length=l.length+1:=by unfold Jg;rw[Zem];simp
theorem Jt(l:List Int):(Qj l).length=l.length:=by unfold Qj;rw[eV,XN]
theorem jA(l:List Int):(QD l).2.length=l.length-1:=by unfold QD;rw[Yb,Jt];omega
theorem V8{Q:Int→Prop}{l:List Int}{x:Int}(h:∀y∈l,Q y)(f:Q x):∀y∈Jg l x,Q y:=by
 unfold Jg;refine Zel _ _ _ (by simp) ?_;intro y hy;rcases List.mem_append.1 hy with hy|hy
 ·exact h y hy
 rw[List.mem_singleton.1 hy];exact f
theorem ZaE{Q:Int→Prop}{l:List Int}(g:l≠[])(h:∀y∈l,Q y):∀y∈Qj l,Q y:=by
 have f:0<l.length:=by cases l with
  | nil=>exact absurd rfl g
  | cons _ _=>simp
 unfold Qj;exact eU _ _ _ _ (by rw[XN];omega) (xy f oq h)
theorem ER{Q:Int→Prop}{l:List Int}(g:l≠[])(h:∀y∈l,Q y):Q (QD l).1∧∀y∈(QD l).2,Q y:=by
 have j:0<l.length:=by cases l with
  | nil=>exact absurd rfl g
  | cons _ _=>simp
 have f:=ZaE g h;exact⟨f _ (J3 (by rw[Jt];omega)),fun y hy=>f y (List.mem_of_mem_take hy)⟩
def Ei(o:Int × Int × Int):Bool:=decide (o.1=6∨(o.1=5∧¬o.2.1=0))
def jZ(f:FD)(i:Int):Option Int:=if (XR f i).isSome=true∧(f.ins.length:Int)≤i then some (i-(f.ins.length:Int)) else none
def Jf(f:FD)(a:AD):Option Int:=if a.ops.any Ei=true then none else jZ f a.src
def zl(f:FD)(t:TD):List Int:=t.args.filterMap (Jf f)
def Y8(f:FD)(t:TD):List Int:=Lib.compact ((zl f t).mergeSort (fun x y=>decide (x≤y)))
theorem E1{f:FD}{i:Int}(h:(XR f i).isSome=true)(j:(f.ins.length:Int)≤i):i-(f.ins.length:Int)<(f.tasks.length:Int):=by
 by_cases g:i-(f.ins.length:Int)<(f.tasks.length:Int)
 ·exact g
 rw[gJ oq oq g] at h
 cases h
theorem ZfB{f:FD}{i x:Int}(h:jZ f i=some x):0≤x∧x<(f.tasks.length:Int):=by
 unfold jZ at h;split at h
 ·rename_i h1
  cases h
  exact⟨oq,E1 h1.1 h1.2⟩
 cases h
theorem Zfc{f:FD}{t:TD}:∀x∈zl f t,0≤x∧x<(f.tasks.length:Int):=by
 intro x j;obtain⟨a,_,g⟩:=List.mem_filterMap.1 j;unfold Jf at g;split at g
 ·cases g
 exact ZfB g
structure WS where
 q:List Int
 many:List Int
 rd:List (List Int)
def addR(t:Nat)(r:List (List Int))(x:Int):List (List Int):=r.set x.toNat (r.getD x.toNat []++[(t:Int)])
def QW(f:FD)(s:WS)(t:Nat):WS:=match f.tasks[t]? with
 | none=>s
 | some d=>⟨if Y8 f d=[] then Jg s.q (t:Int) else s.q,s.many.set t ((Y8 f d).length:Int),(Y8 f d).foldl (addR t) s.rd⟩
def EF(f:FD):WS:=(List.range f.tasks.length).foldl (QW f) ⟨[],List.replicate f.tasks.length 0,List.replicate f.tasks.length []⟩
def YG(s:WS)(r:Int):WS:=⟨if s.many.getD r.toNat 0-1=0 then Jg s.q r else s.q,s.many.set r.toNat (s.many.getD r.toNat 0-1),s.rd⟩
def YP(s:WS):Int × WS:=((QD s.q).1,(s.rd.getD (QD s.q).1.toNat []).foldl YG ⟨(QD s.q).2,s.many,s.rd⟩)
def XE:Nat→WS→List Int→List Int
 | 0,_,l=>l
 | n+1,s,l=>if s.q=[] then l else XE n (YP s).2 (l++[(YP s).1])
def muW(s:WS):Nat:=s.q.length+s.many.countP (fun x=>decide (0<x))
def ofP(f:FD):Option (List Int):=if (XE (muW (EF f)) (EF f) []).length<f.tasks.length then none else some (XE (muW (EF f)) (EF f) [])
structure WOk (T:Nat) (s:WS):Prop where
 q:∀x∈s.q,0≤x∧x<(T:Int)
 many:s.many.length=T
 rd:s.rd.length=T
 rds:∀r∈s.rd,∀x∈r,0≤x∧x<(T:Int)
theorem vF{l:List Int}{i:Nat}{x:Int}{p:Int→Bool}(h:i<l.length):(l.set i x).countP p+(if p (l.getD i 0)=true then 1 else 0)=l.countP p+(if p x=true then 1 else 0):=by
 induction l generalizing i with
 | nil=>simp at h
 | cons a l ih =>
  cases i with
  | zero =>
   simp only[List.set_cons_zero,List.countP_cons,List.getD_cons_zero];omega
  | succ i =>
   have:=ih (i:=i) (by simpa using h);simp only[List.set_cons_succ,List.countP_cons,List.getD_cons_succ];omega
theorem Zd5(s:WS)(r:Int):muW (YG s r)≤muW s:=by
 unfold muW YG;simp only;by_cases q:r.toNat<s.many.length
 ·have h:=vF (x:=s.many.getD r.toNat 0-1) (p:=fun x=>decide (0<x)) q;generalize s.many.getD r.toNat 0=m at h ⊢;simp only[Yk] at h;by_cases g:m-1=0
  ·rw[Z2 g,yg];rw[Z2 oq,Z1 oq] at h;omega
  rw[Z1 g];by_cases f:0<m
  ·rw[Z2 f,Z2 oq] at h;omega
  rw[Z1 f,Z1 oq] at h;omega
 have j:s.many.getD r.toNat 0=0:=by rw[Zf,Yc oq];rfl
 rw[j,Z1 oq,List.set_eq_of_length_le oq];exact Zc _
theorem ET:∀(l:List Int)(s:WS),muW (l.foldl YG s)≤muW s
 | [],s=>Zc _
 | r::l,s=>Zm (ET l (YG s r)) (Zd5 s r)
theorem xd{s:WS}(h:s.q≠[]):muW (YP s).2+1≤muW s:=by
 have f:=ET (s.rd.getD (QD s.q).1.toNat []) ⟨(QD s.q).2,s.many,s.rd⟩;have g:=jA s.q;have j:0<s.q.length:=by cases hq:s.q with
  | nil=>exact absurd hq h
  | cons _ _=>simp
 unfold YP;simp only;unfold muW at f ⊢;simp only at f ⊢;omega
theorem qP:∀(n:Nat)(s:WS)(l:List Int),muW s≤n→XE (n+1) s l=XE n s l:=by
 intro n
 induction n with
 | zero =>
  intro s l h;have:s.q=[]:=by cases hq:s.q with
   | nil=>rfl
   | cons a b=>unfold muW at h;rw[hq] at h;simp at h
  (conv=>lhs;rw[XE,Z2 this]);rfl
 | succ n ih =>
  intro s l h
  conv=>lhs;rw[XE]
  conv=>rhs;rw[XE]
  split
  ·rfl
  rename_i hq
  have:=xd hq;exact ih _ _ oq
theorem qQ{s:WS}(l:List Int)(h:s.q≠[]):XE (muW s) s l=XE (muW (YP s).2) (YP s).2 (l++[(YP s).1]):=by
 have j:=xd h;have key:∀d n,n=muW (YP s).2+d→XE n (YP s).2 (l++[(YP s).1])=XE (muW (YP s).2) (YP s).2 (l++[(YP s).1]):=by
  intro d
  induction d with
  | zero=>intro n f;rw[f];rfl
  | succ d ih =>
   intro n f;rw[show n=(muW (YP s).2+d)+1 by omega,qP _ _ _ oq];exact ih _ rfl
 obtain⟨m,g⟩:∃m,muW s=m+1:=⟨muW s-1,oq⟩;rw[g,XE,Z1 h];exact key (m-muW (YP s).2) m oq
theorem uv{s:WS}(n:Nat)(l:List Int)(h:s.q=[]):XE n s l=l:=by
 cases n with
 | zero=>rfl
 | succ n=>rw[XE,Z2 h]
theorem Zcv{T:Nat}{s:WS}(h:WOk T s)(i:Nat):∀x∈s.rd.getD i [],0≤x∧x<(T:Int):=by
 intro x f;by_cases hi:i<s.rd.length
 ·rw[Zf,Ze hi] at f;exact h.rds _ (Zi hi) x f
 rw[Zf,Yc oq] at f
 cases f
theorem WOk.read{T:Nat}{s:WS}(h:WOk T s){r:Int}(f:0≤r∧r<(T:Int)):WOk T (YG s r):=by
 refine⟨?_,by simp[YG,h.many],h.rd,h.rds⟩;unfold YG;simp only;split
 ·exact V8 h.q f
 exact h.q
theorem WOk.reads{T:Nat}:∀(l:List Int)(s:WS),WOk T s→(∀x∈l,0≤x∧x<(T:Int))→WOk T (l.foldl YG s)
 | [],s,h,_=>h
 | r::l,s,h,hl=>WOk.reads l _ (h.read (hl r (by simp))) (fun x hx=>hl x (by simp[hx]))
theorem WOk.next{T:Nat}{s:WS}(h:WOk T s)(g:s.q≠[]):(0≤(YP s).1∧(YP s).1<(T:Int))∧WOk T (YP s).2:=by
 have f:=ER g h.q;exact⟨f.1,WOk.reads _ _ ⟨f.2,h.many,h.rd,h.rds⟩ (Zcv h _)⟩
theorem Gg{d:Array Int}{m:Nat}(y:m≤d.size):∀x∈Lib.compactUpTo d m,x∈d.toList:=by
 intro x g;unfold Lib.compactUpTo at g;obtain⟨j,q,rfl⟩:=Ye.1 g;have v:=List.mem_range.1 (List.mem_filter.1 q).1;have f:j<d.size:=oq;simp only[getElem!_pos d j f];simp
theorem qo{f:FD}{t:TD}:∀x∈Y8 f t,0≤x∧x<(f.tasks.length:Int):=by
 intro x j;have g:=Gg (Nat.le_of_eq (by simp)) x j;exact Zfc x (List.mem_mergeSort.1 g)
theorem Q0(q:List Int):(Lib.compact q).length≤q.length:=by
 unfold Lib.compact Lib.compactUpTo;rw[Zo];exact Zm (List.length_filter_le _ _) (by simp)
theorem WOk.addR{T:Nat}{t:Nat}(ht:t<T){r:List (List Int)}{x:Int}(g:r.length=T)(h:∀s∈r,∀y∈s,0≤y∧y<(T:Int)):(addR t r x).length=T∧∀s∈addR t r x,∀y∈s,0≤y∧y<(T:Int):=by
 refine⟨by simp[syn.addR,g],?_⟩;intro s f y hy;unfold syn.addR at f;rcases QS f with f|rfl
 ·exact h s f y hy
 rcases List.mem_append.1 hy with hy|hy
 ·by_cases hi:x.toNat<r.length
  ·rw[Zf,Ze hi] at hy;exact h _ (Zi hi) y hy
  rw[Zf,Yc oq] at hy
  cases hy
 rw[List.mem_singleton.1 hy];omega
theorem WOk.addRs{T:Nat}{t:Nat}(ht:t<T):∀(l:List Int)(r:List (List Int)),r.length=T→(∀s∈r,∀y∈s,0≤y∧y<(T:Int))→(l.foldl (syn.addR t) r).length=T∧∀s∈l.foldl (syn.addR t) r,∀y∈s,0≤y∧y<(T:Int)
 | [],r,h1,h2=>⟨h1,h2⟩
 | x::l,r,h1,h2=>by
  obtain⟨h3,h4⟩:=WOk.addR (x:=x) ht h1 h2;exact WOk.addRs ht l _ h3 h4
theorem WOk.newS{f:FD}{s:WS}{t:Nat}(ht:t<f.tasks.length)(h:WOk f.tasks.length s):WOk f.tasks.length (QW f s t):=by
 unfold QW;rw[Ze ht];simp only;obtain⟨g,j⟩:=WOk.addRs ht (Y8 f f.tasks[t]) s.rd h.rd h.rds;refine⟨?_,by simp[h.many],g,j⟩;simp only;split
 ·exact V8 h.q oq
 exact h.q
def XD(f:FD)(n:Nat):WS:=(List.range n).foldl (QW f) ⟨[],List.replicate f.tasks.length 0,List.replicate f.tasks.length []⟩
theorem Jr(f:FD)(n:Nat):XD f (n+1)=QW f (XD f n) n:=by
 unfold XD;rw[Yi,List.foldl_append];rfl
theorem GG(f:FD):∀n,n≤f.tasks.length→WOk f.tasks.length (XD f n)
 | 0,_=>⟨by simp[XD],by simp[XD],by simp[XD],by
   intro r hr x hx;have:=List.eq_of_mem_replicate (show r∈List.replicate f.tasks.length [] from hr);subst this
   cases hx⟩
 | n+1,h=>by
  rw[Jr];exact WOk.newS oq (GG f n oq)
theorem JD{f:FD}{s:WS}{t:Nat}{d:TD}(h:f.tasks[t]?=some d):QW f s t=⟨if Y8 f d=[] then Jg s.q (t:Int) else s.q,s.many.set t ((Y8 f d).length:Int),(Y8 f d).foldl (addR t) s.rd⟩:=by
 unfold QW;rw[h]
theorem KQ(f:FD):∀n,(XD f n).q.length≤n
 | 0=>by simp[XD]
 | n+1=>by
  have ih:=KQ f n;rw[Jr]
  cases h:f.tasks[n]? with
  | none=>unfold QW;rw[h];simp only;omega
  | some d =>
   rw[JD h];simp only;split
   ·rw[yg];omega
   omega
theorem E4{l:List Int}{i j:Nat}(hi:i<l.length)(f:j<l.length):(swp l i j).Perm l:=by
 have h:((l.set i l[j]).set j l[i]).Perm l:=List.set_set_perm hi f;unfold swp;rw[Zf,Zf,Ze hi,Ze f];exact h
theorem Zc2:∀(n:Nat)(l:List Int)(j:Nat),j<l.length→(upP n l j).Perm l:=by
 intro n
 induction n with
 | zero=>intro l j _;exact List.Perm.refl _
 | succ n ih =>
  intro l j f;rw[upP];split
  ·exact List.Perm.refl _
  split
  ·exact(ih _ _ (by rw[XN];omega)).trans (E4 oq f)
  exact List.Perm.refl _
theorem vH:∀(k:Nat)(l:List Int)(i n:Nat),n≤l.length→(QH k l i n).Perm l:=by
 intro k
 induction k with
 | zero=>intro l i n _;exact List.Perm.refl _
 | succ k ih =>
  intro l i n f;rw[QH];split
  ·exact List.Perm.refl _
  rename_i h1
  have g:=uh (l:=l) h1;split
  ·exact(ih _ _ _ (by rw[XN];exact f)).trans (E4 oq oq)
  exact List.Perm.refl _
theorem Vm(l:List Int)(x:Int):(Jg l x).Perm (x::l):=by
 unfold Jg;exact(Zc2 _ _ _ (by simp)).trans (List.perm_append_singleton _ _)
theorem Zax{l:List Int}(j:l≠[]):((QD l).1::(QD l).2).Perm l:=by
 have f:0<l.length:=by cases l with
  | nil=>exact absurd rfl j
  | cons _ _=>simp
 have g:(Qj l).Perm l:=by
  unfold Qj;exact(vH _ _ _ _ (by rw[XN];omega)).trans (E4 f oq)
 refine List.Perm.trans ?_ g;have m:=Jt l;have hi:l.length-1<(Qj l).length:=oq;have e:Qj l=(QD l).2++[(QD l).1]:=by
  unfold QD;simp only;rw[Zf,Ze hi];have:=Zv hi;rw[show l.length-1+1=(Qj l).length by omega,ZS] at this;exact this
 rw[e];exact(List.perm_append_singleton _ _).symm
def Xo(f:FD)(t:Nat):List Int:=match f.tasks[t]? with
 | none=>[]
 | some d=>Y8 f d
theorem zQ{f:FD}{t:Nat}{d:TD}(h:f.tasks[t]?=some d):Xo f t=Y8 f d:=by unfold Xo;rw[h]
theorem En{α:Type}(l:List α)(i j:Nat)(a z:α)(hi:i<l.length):(l.set i a).getD j z=if i=j then a else l.getD j z:=by
 rw[Zf,Zf];by_cases h:i=j
 ·subst h;rw[Z2 rfl,List.getElem?_set_self hi];rfl
 rw[Z1 h,List.getElem?_set_ne h]
theorem jE{T:Nat}:∀(R:List Int)(s:WS),WOk T s→(∀x∈R,0≤x∧x<(T:Int))→(∀t:Nat,t<T→((R.count (t:Int):Nat):Int)≤s.many.getD t 0) →
  (R.foldl YG s).rd=s.rd∧(∀t:Nat,t<T→(R.foldl YG s).many.getD t 0=s.many.getD t 0-((R.count (t:Int):Nat):Int)) ∧
  (∀t:Nat,t<T→(R.foldl YG s).q.count (t:Int)=s.q.count (t:Int)+(if 0<R.count (t:Int)∧s.many.getD t 0=((R.count (t:Int):Nat):Int) then 1 else 0))
 | [],s,_,_,_=>⟨rfl,fun t _=>by simp,fun t _=>by simp⟩
 | r::R,s,hs,hR,hc=>by
  have hr:=hR r (by simp);obtain⟨k,rfl⟩:∃k:Nat,r=(k:Int):=⟨r.toNat,oq⟩;have hk:k<T:=oq;have hm:=hs.many;have hck:=hc k hk;simp only[List.count_cons_self] at hck;have hmany:∀t:Nat,t<T→(YG s (k:Int)).many.getD t 0=if k=t then s.many.getD k 0-1 else s.many.getD t 0:=fun t ht=>by
   unfold YG;simp only[ZQ];exact En _ _ _ _ _ oq
  have hcnt:∀t:Nat,((k:Int)::R).count (t:Int)=R.count (t:Int)+(if k=t then 1 else 0):=fun t=>by
   rw[List.count_cons];by_cases h:k=t
   ·subst h;simp
   rw[Z1 h,Z1];intro h2;have:=eq_of_beq h2;omega
  obtain⟨h1,h2,h3⟩:=jE R (YG s (k:Int)) (hs.read hr) (fun x hx=>hR x (by simp[hx])) (fun t ht=>by
   have:=hc t ht;rw[hcnt t] at this;rw[hmany t ht];by_cases h:k=t
   ·subst h;rw[Z2 rfl] at this ⊢;omega
   rw[Z1 h] at this ⊢;exact this)
  refine⟨h1,fun t ht=>?_,fun t ht=>?_⟩
  ·show(R.foldl YG (YG s (k:Int))).many.getD t 0=_;rw[h2 t ht,hmany t ht,hcnt t];by_cases h:k=t
   ·subst h;rw[Z2 rfl,Z2 rfl];omega
   rw[Z1 h,Z1 h];omega
  show(R.foldl YG (YG s (k:Int))).q.count (t:Int)=_;rw[h3 t ht,hmany t ht,hcnt t];have hq:(YG s (k:Int)).q=if s.many.getD k 0-1=0 then Jg s.q (k:Int) else s.q:=rfl
  rw[hq];by_cases h:k=t
  ·subst h;simp only[Z2];by_cases h0:s.many.getD k 0-1=0
   ·rw[Z2 h0,(Vm _ _).count_eq,List.count_cons_self,Z1 oq,Z2 oq]
   rw[Z1 h0];by_cases h4:0<R.count (k:Int)∧s.many.getD k 0-1=((R.count (k:Int):Nat):Int)
   ·rw[Z2 h4,Z2 oq]
   rw[Z1 h4,Z1 oq]
  simp only[Z1 h,Nat.add_zero];have hne:¬((k:Int) == (t:Int))=true:=fun h2=>by have:=eq_of_beq h2;omega
  by_cases h0:s.many.getD k 0-1=0
  ·rw[Z2 h0,(Vm _ _).count_eq,List.count_cons,Z1 hne];rfl
  rw[Z1 h0]
structure gR (f:FD) (s:WS) (l:List Int):Prop where
 ok:WOk f.tasks.length s
 rd:∀x t:Nat,x<f.tasks.length→t<f.tasks.length→(s.rd.getD x []).count (t:Int)=(Xo f t).count (x:Int)
 many:∀t:Nat,t<f.tasks.length→s.many.getD t 0=(((Xo f t).countP (fun y=>decide (y∉l)):Nat):Int)
 inn:∀t:Nat,t<f.tasks.length→(((t:Int)∈s.q∨(t:Int)∈l)↔∀y∈Xo f t,y∈l)
 nd:∀t:Nat,t<f.tasks.length→s.q.count (t:Int)+l.count (t:Int)≤1
 rng:∀x∈l,0≤x∧x<(f.tasks.length:Int)
 top:∀(i:Nat)(x:Int),l[i]?=some x→∀y∈Xo f x.toNat,y∈l.take i
theorem countP_split(h:List Int)(l:List Int)(x:Int)(j:x∉l):h.countP (fun y=>decide (y∉l))=h.countP (fun y=>decide (y∉l++[x]))+h.count x:=by
 induction h with
 | nil=>rfl
 | cons a h ih =>
  rw[List.countP_cons,List.countP_cons,List.count_cons,ih];by_cases f:a=x
  ·subst f;simp[j];omega
  by_cases g:a∈l
  ·simp[g,f]
  simp[g,f];omega
theorem gR.next{f:FD}{s:WS}{l:List Int}(h:gR f s l)(hq:s.q≠[]):gR f (YP s).2 (l++[(YP s).1]):=by
 have hp:=Zax hq;have hn:=h.ok.next hq;have ah:(YP s).1=(QD s.q).1:=rfl;have af:(YP s).2=(s.rd.getD (QD s.q).1.toNat []).foldl YG ⟨(QD s.q).2,s.many,s.rd⟩:=rfl;obtain⟨Z,v⟩:=hn;rw[ah] at Z ⊢;rw[af] at v ⊢;have E:=ER hq h.ok.q;obtain⟨x,hx⟩:=ez ((QD s.q).1);obtain⟨G,Y⟩:=ez ((QD s.q).2);rw[hx,Y] at hp E;rw[hx] at Z v ⊢;rw[Y] at v ⊢;obtain⟨k,rfl⟩:∃k:Nat,x=(k:Int):=⟨x.toNat,oq⟩;have O:k<f.tasks.length:=oq;simp only[ZQ] at v ⊢;have I:∀t:Nat,s.q.count (t:Int)=G.count (t:Int)+(if k=t then 1 else 0):=fun t=>by
  rw[←hp.count_eq,List.count_cons];by_cases e:k=t
  ·subst e;simp
  rw[Z1 e,Z1];intro R;have:=eq_of_beq R;omega
 have A:(k:Int)∉l:=fun hm=>by
  have:=h.nd k O;rw[I k,Z2 rfl] at this;have:=List.count_pos_iff.2 hm;omega
 have F:∀t:Nat,((t:Int)∈s.q↔(t:Int)∈G∨t=k):=fun t=>by
  rw[←hp.mem_iff,ZR];constructor
  ·rintro (g|g)
   ·exact .inr oq
   exact .inl g
  rintro (g|g)
  ·exact .inr g
  exact .inl oq
 have U:=Zcv h.ok k;have ae:∀t:Nat,t<f.tasks.length→(((s.rd.getD k []).count (t:Int):Nat):Int)≤s.many.getD t 0:=fun t ht=>by
  rw[h.rd k t O ht,h.many t ht,countP_split _ l (k:Int) A];omega
 obtain⟨r1,r2,r3⟩:=jE (T:=f.tasks.length) (s.rd.getD k []) ⟨G,s.many,s.rd⟩ ⟨E.2,h.ok.many,h.ok.rd,h.ok.rds⟩ U ae;have J:∀t:Nat,t<f.tasks.length→((s.rd.getD k []).foldl YG ⟨G,s.many,s.rd⟩).many.getD t 0=(((Xo f t).countP (fun y=>decide (y∉l++[(k:Int)])):Nat):Int):=fun t ht=>by
  rw[r2 t ht,h.rd k t O ht];show s.many.getD t 0-_=_;rw[h.many t ht,countP_split _ l (k:Int) A];omega
 have hz:∀t:Nat,t<f.tasks.length→(((Xo f t).countP (fun y=>decide (y∉l++[(k:Int)]))=0)↔∀y∈Xo f t,y∈l++[(k:Int)]):=fun t ht=>by
  rw[List.countP_eq_zero];simp only[Yk,Decidable.not_not]
 have D:∀t:Nat,t<f.tasks.length→(((Xo f t).countP (fun y=>decide (y∉l))=0)↔∀y∈Xo f t,y∈l):=fun t ht=>by
  rw[List.countP_eq_zero];simp only[Yk,Decidable.not_not]
 refine⟨v,fun x t hx ht=>by rw[r1];exact h.rd x t hx ht,J,fun t ht=>?_,fun t ht=>?_,?_,?_⟩
 ·have ag:=countP_split (Xo f t) l (k:Int) A;have H:=r3 t ht;have L:=h.rd k t O ht;have C:=h.many t ht;have m:=h.inn t ht;rw[F t] at m;rw[←hz t ht];constructor
  ·rintro (g|g)
   ·have g:=List.count_pos_iff.2 g;rw[H] at g;by_cases j:0<(s.rd.getD k []).count (t:Int)∧s.many.getD t 0=(((s.rd.getD k []).count (t:Int):Nat):Int)
    ·have:=j.2;rw[L,C] at this;omega
    rw[show(⟨G,s.many,s.rd⟩:WS).many=s.many from rfl,Z1 j] at g;have:=(D t ht).2 (m.1 (.inl (.inl (List.count_pos_iff.1 (by simpa using g)))));omega
   rw[List.mem_append,List.mem_singleton] at g;have:=(D t ht).2 (m.1 (by
    rcases g with g|g
    ·exact .inr g
    exact .inl (.inr oq)))
   omega
  intro h0;by_cases ab:(Xo f t).countP (fun y=>decide (y∉l))=0
  ·rcases m.2 ((D t ht).1 ab) with (g|g)|g
   ·refine .inl (List.count_pos_iff.1 ?_);rw[H];have:=List.count_pos_iff.2 g;show 0<G.count (t:Int)+_;omega
   ·exact .inr (by rw[g];simp)
   exact .inr (by simp[g])
  refine .inl (List.count_pos_iff.1 ?_);rw[H,Z2]
  ·omega
  show _∧s.many.getD t 0=_;rw[C,L];omega
 ·rw[r3 t ht,List.count_append];have g:=h.nd t ht;rw[I t] at g;have L:=h.rd k t O ht;have C:=h.many t ht;have ag:=countP_split (Xo f t) l (k:Int) A;show G.count (t:Int)+_+_≤1;have M:List.count (t:Int) [(k:Int)]=if k=t then 1 else 0:=by
   rw[List.count_singleton];by_cases e:k=t
   ·subst e;simp
   rw[Z1 e,Z1];intro R;have:=eq_of_beq R;omega
  rw[M];by_cases j:0<(s.rd.getD k []).count (t:Int)∧(⟨G,s.many,s.rd⟩:WS).many.getD t 0=(((s.rd.getD k []).count (t:Int):Nat):Int)
  ·rw[Z2 j];have R:s.many.getD t 0=(((s.rd.getD k []).count (t:Int):Nat):Int):=j.2;have ai:=j.1;have X:¬∀y∈Xo f t,y∈l:=fun hc=>by
    have:=(D t ht).2 hc;rw[C] at R;omega
   have m:=h.inn t ht;have h3:¬(t:Int)∈s.q:=fun hm=>X (m.1 (.inl hm))
   have h4:¬(t:Int)∈l:=fun hm=>X (m.1 (.inr hm))
   have h5:=List.count_eq_zero.2 h3;have h6:=List.count_eq_zero.2 h4;rw[I t] at h5;omega
  rw[Z1 j];omega
 ·intro y hy;rcases List.mem_append.1 hy with hy|hy
  ·exact h.rng y hy
  rw[List.mem_singleton.1 hy];omega
 intro i y hi z aa;by_cases ac:i<l.length
 ·rw[List.getElem?_append_left ac] at hi;rw[List.take_append_of_le_length oq];exact h.top i y hi z aa
 have V:=(ZA.1 hi).1;rw[Zx,List.length_singleton] at V;obtain rfl:i=l.length:=oq;rw[List.getElem?_append_right (Zc _),Nat.sub_self] at hi;injection hi with hi
 subst hi;rw[List.take_left];exact(h.inn k O).1 (.inl ((F k).2 (.inr rfl))) z aa
theorem K7{T:Nat}{t:Nat}(ht:t<T):∀(H:List Int)(r:List (List Int)),r.length=T→(∀x∈H,0≤x∧x<(T:Int))→(H.foldl (addR t) r).length=T∧∀x u:Nat,x<T→((H.foldl (addR t) r).getD x []).count (u:Int)=(r.getD x []).count (u:Int)+(if u=t then H.count (x:Int) else 0)
 | [],r,hr,_=>⟨hr,fun x u _=>by simp⟩
 | a::H,r,hr,hH=>by
  have ha:=hH a (by simp);obtain⟨k,rfl⟩:∃k:Nat,a=(k:Int):=⟨a.toNat,oq⟩;have hl:(addR t r (k:Int)).length=T:=by unfold addR;rw[List.length_set];exact hr
  obtain⟨q,v⟩:=K7 ht H (addR t r (k:Int)) hl (fun x hx=>hH x (by simp[hx]));refine⟨q,fun x u hx=>?_⟩;show((H.foldl (addR t) (addR t r (k:Int))).getD x []).count (u:Int)=_;rw[v x u hx];have e:(addR t r (k:Int)).getD x []=if k=x then r.getD k []++[(t:Int)] else r.getD x []:=by
   unfold addR;simp only[ZQ];exact En _ _ _ _ _ oq
  rw[e,List.count_cons];by_cases f:k=x
  ·subst f;rw[Z2 rfl,List.count_append,List.count_singleton];by_cases m:u=t
   ·subst m;simp;omega
   rw[Z1 m,Z1 m,Z1];intro g;have:=eq_of_beq g;omega
  rw[Z1 f];have j:¬((k:Int) == (x:Int))=true:=fun g=>by have:=eq_of_beq g;omega
  rw[Z1 j,Nat.add_zero]
theorem qL(f:FD):∀n,n≤f.tasks.length →
  (∀x t:Nat,x<f.tasks.length→t<f.tasks.length→((XD f n).rd.getD x []).count (t:Int)=if t<n then (Xo f t).count (x:Int) else 0) ∧
  (∀t:Nat,t<f.tasks.length→(XD f n).many.getD t 0=if t<n then ((Xo f t).length:Int) else 0) ∧
  (∀t:Nat,t<f.tasks.length→(XD f n).q.count (t:Int)=if t<n∧Xo f t=[] then 1 else 0)
 | 0,_=>by
  refine⟨fun x t hx _=>?_,fun t ht=>?_,fun t _=>by simp[XD]⟩
  ·have:((XD f 0).rd.getD x [])=[]:=by simp[XD,Zf,List.getElem?_replicate,hx]
   rw[this];simp
  simp[XD,Zf,List.getElem?_replicate,ht]
 | n+1,h=>by
  obtain⟨G,H,D⟩:=qL f n oq;have A:n<f.tasks.length:=oq;have v:=GG f n oq;have hd:f.tasks[n]?=some f.tasks[n]:=Ze A;have z:=zQ hd;rw[Jr,JD hd];obtain⟨I,E⟩:=K7 A (Y8 f f.tasks[n]) (XD f n).rd v.rd (fun x hx=>qo x hx);refine⟨fun x t hx ht=>?_,fun t ht=>?_,fun t ht=>?_⟩
  ·show(((Y8 f f.tasks[n]).foldl (addR n) (XD f n).rd).getD x []).count (t:Int)=_;rw[E x t hx,G x t hx ht];by_cases e:t=n
   ·subst e;rw[Z1 oq,Z2 rfl,Z2 oq,z];omega
   rw[Z1 e];by_cases g:t<n
   ·rw[Z2 g,Z2 oq];rfl
   rw[Z1 g,Z1 oq]
  ·show((XD f n).many.set n ((Y8 f f.tasks[n]).length:Int)).getD t 0=_;rw[En _ _ _ _ _ (by rw[v.many];exact A)];by_cases e:n=t
   ·subst e;rw[Z2 rfl,Z2 oq,z]
   rw[Z1 e,H t ht];by_cases g:t<n
   ·rw[Z2 g,Z2 oq]
   rw[Z1 g,Z1 oq]
  show(if Y8 f f.tasks[n]=[] then Jg (XD f n).q (n:Int) else (XD f n).q).count (t:Int)=_;by_cases e:t=n
  ·subst e;have j:=D t ht;rw[Z1 oq] at j;by_cases y:Y8 f f.tasks[t]=[]
   ·rw[Z2 y,(Vm _ _).count_eq,List.count_cons_self,j,Z2 ⟨oq,by rw[z];exact y⟩]
   rw[Z1 y,j,Z1 (fun m=>y (by rw[←z];exact m.2))]
  have C:¬((n:Int) == (t:Int))=true:=fun h4=>by have:=eq_of_beq h4;omega
  have F:(if Y8 f f.tasks[n]=[] then Jg (XD f n).q (n:Int) else (XD f n).q).count (t:Int)=(XD f n).q.count (t:Int):=by
   split
   ·rw[(Vm _ _).count_eq,List.count_cons,Z1 C,Nat.add_zero]
   rfl
  rw[F,D t ht];by_cases m:t<n∧Xo f t=[]
  ·rw[Z2 m,Z2 ⟨oq,m.2⟩]
  rw[Z1 m,Z1 (fun h5=>m ⟨oq,h5.2⟩)]
theorem ZdO(f:FD):EF f=XD f f.tasks.length:=rfl
theorem Zce(f:FD):gR f (EF f) []:=by
 obtain⟨z,A,m⟩:=qL f _ (Zc _);rw[ZdO];have j:=GG f f.tasks.length (Zc _);refine⟨j,fun x t hx ht=>by rw[z x t hx ht,Z2 ht],fun t ht=>?_,fun t ht=>?_,fun t ht=>?_,(fun x hx=>by cases hx),(fun i x hi=>by simp at hi)⟩
 ·rw[A t ht,Z2 ht];simp
 ·have q:=m t ht;constructor
  ·rintro (g|g)
   ·have:=List.count_pos_iff.2 g;rw[q] at this;by_cases v:t<f.tasks.length∧Xo f t=[]
    ·rw[v.2];intro y hy;cases hy
    rw[Z1 v] at this;omega
   cases g
  intro g;have C:Xo f t=[]:=by
   cases hh:Xo f t with
   | nil=>rfl
   | cons a _=>rw[hh] at g;exact absurd (g a (by simp)) (by simp)
  rw[Z2 ⟨ht,C⟩] at q;exact .inl (List.count_pos_iff.1 oq)
 rw[m t ht];simp only[List.count_nil,Nat.add_zero];split<;>omega
theorem EK{f:FD}:∀(n:Nat)(s:WS)(l:List Int),gR f s l→∃s',gR f s' (XE n s l)
 | 0,s,l,h=>⟨s,h⟩
 | n+1,s,l,h=>by
  rw[XE];split
  ·exact⟨s,h⟩
  rename_i hq
  exact EK n _ _ (h.next hq)
structure Xa (f:FD) (l:List Int):Prop where
 rng:∀x∈l,0≤x∧x<(f.tasks.length:Int)
 nd:l.Nodup
 all:∀t:Nat,t<f.tasks.length→(t:Int)∈l
 top:∀(i:Nat)(x:Int),l[i]?=some x→∀y∈Xo f x.toNat,y∈l.take i
theorem qR{f:FD}{l:List Int}(h:ofP f=some l):Xa f l:=by
 unfold ofP at h;split at h
 ·cases h
 rename_i hlen
 cases h
 obtain⟨A,g⟩:=EK (f:=f) (muW (EF f)) (EF f) [] (Zce f);obtain⟨l,z⟩:=ez (XE (muW (EF f)) (EF f) []);rw[z] at g hlen ⊢;have j:l.Nodup:=by
  rw[List.nodup_iff_count];intro a;by_cases q:a∈l
  ·have:=g.rng a q;obtain⟨k,rfl⟩:∃k:Nat,a=(k:Int):=⟨a.toNat,oq⟩;have:=g.nd k oq;omega
  rw[List.count_eq_zero.2 q];omega
 refine⟨g.rng,j,fun t ht=>?_,g.top⟩;apply Yh;intro m;have v:((t:Int)::l).Nodup:=List.nodup_cons.2 ⟨m,j⟩;have x:=List.Nodup.length_le_of_subset (l₂:=(List.range f.tasks.length).map (fun k:Nat=>(k:Int))) v (by
  intro y hy;rcases ZR.1 hy with rfl|hy
  ·exact Ye.2 ⟨t,List.mem_range.2 ht,rfl⟩
  have:=g.rng y hy;exact Ye.2 ⟨y.toNat,List.mem_range.2 oq,oq⟩)
 rw[Zp,Zo,List.length_range] at x;omega
def Vh(per ph u:Int):Nat:=if u≤ph then 0 else ((u-1-ph)/per).toNat+1
theorem Jl{f ph u:Int}(q:1≤f)(n:Nat):n<Vh f ph u↔ph+(n:Int)*f<u:=by
 unfold Vh;have j:0≤(n:Int)*f:=Int.mul_nonneg oq oq;split
 ·constructor
  ·intro h;omega
  intro h;omega
 have m:=Int.ediv_nonneg (show 0≤u-1-ph by omega) (show 0≤f by omega);have g:=Int.le_ediv_iff_mul_le (a:=(n:Int)) (b:=u-1-ph) (show 0<f by omega);constructor
 ·intro h;have:=g.1 oq;omega
 intro h;have:=g.2 oq;omega
def tkO(f:FD)(t:Nat):TD:=f.tasks.getD t ⟨0,1,0,[]⟩
theorem UC{f:FD}{t:Nat}(h:t<f.tasks.length):f.tasks[t]=tkO f t:=by unfold tkO;rw[Zf,Ze h];rfl
def Jm(f:FD)(b:Nat × Nat):Int:=(tkO f b.1).ph+(b.2:Int)*(tkO f b.1).per
def QE(f:FD)(u:Int)(t:Nat):Nat:=Vh (tkO f t).per (tkO f t).ph u
def XC(t n:Nat):List (Nat × Nat):=(List.range n).map (fun k=>(t,k))
def J0(f:FD)(order:List Int)(u:Int):List (Nat × Nat):=order.flatMap (fun t=>XC t.toNat (QE f u t.toNat))
def RJ(f:FD)(order:List Int)(a b:Nat × Nat):Prop:=Jm f a<Jm f b∨(Jm f a=Jm f b∧order.idxOf (a.1:Int)<order.idxOf (b.1:Int))
theorem RJ.trans{f:FD}{order:List Int}{a b c:Nat × Nat}(h:RJ f order a b)(k:RJ f order b c):RJ f order a c:=by
 unfold RJ at *;omega
theorem RJ.asymm{f:FD}{order:List Int}{a b:Nat × Nat}(h:RJ f order a b)(k:RJ f order b a):False:=by
 unfold RJ at *;omega
structure X6 (f:FD) (order:List Int) (u:Int) (B:List (Nat × Nat)):Prop where
 perm:(J0 f order u).Perm B
 srt:B.Pairwise (RJ f order)
theorem Zb8{f:FD}{order:List Int}{u:Int}(h:Xa f order){t n:Nat}:(t,n)∈J0 f order u↔t<f.tasks.length∧n<QE f u t:=by
 unfold J0 XC;simp only[List.mem_flatMap,Ye,List.mem_range,Z4];constructor
 ·rintro⟨x,q,k,m,g,j⟩;have:=h.rng x q;subst g;subst j;exact⟨oq,m⟩
 rintro⟨g,j⟩;exact⟨(t:Int),h.all t g,n,j,rfl,rfl⟩
theorem X6.mem{f:FD}{order:List Int}{u:Int}{B:List (Nat × Nat)}(h:X6 f order u B)(g:Xa f order){t n:Nat}:(t,n)∈B↔t<f.tasks.length∧n<QE f u t:=by
 rw[←h.perm.mem_iff];exact Zb8 g
theorem qg(t s:Nat)(n:Nat):(XC s n).filter (fun b=>decide (b.1=t))=if s=t then XC s n else []:=by
 unfold XC;split
 ·rename_i h
  rw[List.filter_eq_self];intro b hb;obtain⟨k,_,rfl⟩:=Ye.1 hb;exact Z0 h
 rename_i h
 rw[List.filter_eq_nil_iff];intro b hb;obtain⟨k,_,rfl⟩:=Ye.1 hb;simpa using h
theorem Gh(f:FD)(u:Int)(t:Nat):∀(order:List Int),(∀x∈order,0≤x)→order.Nodup→(order.flatMap (fun s=>XC s.toNat (QE f u s.toNat))).filter (fun b=>decide (b.1=t))=if (t:Int)∈order then XC t (QE f u t) else []
 | [],_,_=>rfl
 | a::l,h0,hn=>by
  have h1:=h0 a (by simp);obtain⟨k,rfl⟩:∃k:Nat,a=(k:Int):=⟨a.toNat,oq⟩;rw[List.flatMap_cons,List.filter_append,qg,Gh f u t l (fun x hx=>h0 x (by simp[hx])) (List.nodup_cons.1 hn).2];have h2:=(List.nodup_cons.1 hn).1;simp only[ZQ];by_cases e:k=t
  ·subst e;rw[Z2 rfl,Z1 h2,Z2 (by simp),List.append_nil]
  rw[Z1 e,ZM];have:((t:Int)∈((k:Int)::l))↔(t:Int)∈l:=by
   rw[ZR];constructor
   ·rintro (h|h)
    ·omega
    exact h
   exact .inr
  simp only[this]
theorem X6.task{f:FD}{order:List Int}{u:Int}{B:List (Nat × Nat)}(h:X6 f order u B)(q:Xa f order){t:Nat}(ht:t<f.tasks.length)(G:1≤(tkO f t).per):B.filter (fun b=>decide (b.1=t))=XC t (QE f u t):=by
 have v:=h.perm.filter (fun b=>decide (b.1=t));rw[show J0 f order u=order.flatMap (fun s=>XC s.toNat (QE f u s.toNat)) from rfl,Gh f u t order (fun x hx=>(q.rng x hx).1) q.nd,Z2 (q.all t ht)] at v;have D:(B.filter (fun b=>decide (b.1=t))).Pairwise (fun a b=>a.2<b.2):=by
  have y:=h.srt.filter (fun b=>decide (b.1=t));rw[List.pairwise_iff_getElem] at y ⊢;intro i j hi z m;have g:=y i j hi z m;have A:=Yj (List.mem_filter.1 (Zi hi)).2;have C:=Yj (List.mem_filter.1 (Zi z)).2;unfold RJ Jm at g;rw[A,C] at g;rcases g with g|g
  ·apply Yh;intro F;have:=Int.mul_le_mul_of_nonneg_right (show(((B.filter (fun b=>decide (b.1=t)))[j].2:Nat):Int)≤(((B.filter (fun b=>decide (b.1=t)))[i].2:Nat):Int) by omega) (show 0≤(tkO f t).per by omega);omega
  omega
 have E:(XC t (QE f u t)).Pairwise (fun a b=>a.2<b.2):=by
  unfold XC;rw[List.pairwise_map];exact List.pairwise_lt_range
 exact(List.Perm.eq_of_pairwise (le:=fun a b=>a.2<b.2) (fun a b _ _ h6 h7=>oq) E D v).symm
def plP(B:List (Nat × Nat))(i t:Nat):List Int:=((List.range i).filter (fun k=>decide ((B.getD k (0,0)).1=t))).map (fun k:Nat=>(k:Int))
theorem Zcr(B:List (Nat × Nat))(i t:Nat):plP B (i+1) t=plP B i t++(if (B.getD i (0,0)).1=t then [(i:Int)] else []):=by
 unfold plP;rw[Yi,List.filter_append,ZU];congr 1;by_cases h:(B.getD i (0,0)).1=t
 ·rw[Z2 h,List.filter_cons_of_pos (by exact Z0 h)];rfl
 rw[Z1 h,List.filter_cons_of_neg (by simpa using h)];rfl
theorem uA{α:Type}(l:List α)(z:α):(List.range l.length).map (fun k=>l.getD k z)=l:=by
 apply List.ext_getElem
 ·simp
 intro i g f;simp[Zf,f]
theorem X6.place{f:FD}{order:List Int}{u:Int}{B:List (Nat × Nat)}(h:X6 f order u B)(D:Xa f order){t:Nat}(ht:t<f.tasks.length)(E:1≤(tkO f t).per) :
  (plP B B.length t).length=QE f u t∧∀n,n<QE f u t→∃p:Nat,(plP B B.length t)[n]?=some (p:Int)∧B[p]?=some (t,n):=by
 have z:=h.task D ht E;obtain⟨Q,g⟩:=ez ((List.range B.length).filter (fun k=>decide ((B.getD k (0,0)).1=t)));have m:Q.map (fun k=>B.getD k (0,0))=XC t (QE f u t):=by
  rw[←z,←g]
  conv=>rhs;rw[←uA B (0,0)]
  rw[List.filter_map];simp;rfl
 have C:Q.length=QE f u t:=by
  have:=Z3 List.length m;simpa [XC] using this
 unfold plP;rw[g];refine⟨by rw[Zo];exact C,fun n hn=>?_⟩;have j:n<Q.length:=oq;refine⟨Q[n],by rw[List.getElem?_map,Ze j];rfl,?_⟩;have q:(Q.map (fun k=>B.getD k (0,0)))[n]?=some (t,n):=by
  rw[m];unfold XC;rw[List.getElem?_map,List.getElem?_range hn];rfl
 rw[List.getElem?_map,Ze j] at q;have v:B.getD Q[n] (0,0)=(t,n):=by simpa using q
 have y:Q[n]<B.length:=by
  have A:∀x∈Q,x<B.length:=fun x hx=>by
   rw[←g] at hx;exact List.mem_range.1 (List.mem_filter.1 hx).1
  exact A _ (Zi j)
 rw[Zf,Ze y] at v;rw[Ze y];exact Z3 some v
theorem X6.lt{f:FD}{order:List Int}{u:Int}{B:List (Nat × Nat)}(h:X6 f order u B){p i:Nat}{a b:Nat × Nat}(q:B[p]?=some a)(hi:B[i]?=some b)(m:RJ f order a b):p<i:=by
 obtain⟨j,rfl⟩:=ZA.1 q;obtain⟨g,rfl⟩:=ZA.1 hi;apply Yh;intro v;by_cases e:p=i
 ·subst e;exact m.asymm m
 exact m.asymm (List.pairwise_iff_getElem.1 h.srt i p g j oq)
theorem xY{l:List Int}{x:Int}(h:x∈l):x∈Lib.compact l:=by
 unfold Lib.compact Lib.compactUpTo;obtain⟨j,f,rfl⟩:=Ym h;have key:∀j (f:j<l.length),∃k,k<l.length∧Lib.keeps l.toArray k=true∧l.toArray[k]! = l[j]:=by
  intro j
  induction j with
  | zero=>intro f;exact⟨0,f,by simp[Lib.keeps],by simp[f]⟩
  | succ j ih =>
   intro f;by_cases y:l[j+1]=l[j]
   ·obtain⟨k,g,m,q⟩:=ih oq;exact⟨k,g,m,by rw[q,y]⟩
   refine⟨j+1,f,?_,by simp[f]⟩;have v:j<l.length:=oq;simp[Lib.keeps,f,v,y]
 obtain⟨k,g,m,q⟩:=key j f;exact Ye.2 ⟨k,List.mem_filter.2 ⟨List.mem_range.2 g,m⟩,q⟩
open Go.RowKit Go.Shelf
attribute [local go_sem] ZT
def KD(b1 b2:Nat)(W W':World):Prop:=∀b,(b=b1∨b=b2)→∀o:Obj,W.heap[b]?=some o→o.isCells=true→W'.heap[b]?=some o
theorem KD.refl(b1 b2:Nat)(W:World):KD b1 b2 W W:=fun _ _ _ h _=>h
theorem KD.trans{b1 b2:Nat}{A B C:World}(h:KD b1 b2 A B)(k:KD b1 b2 B C):KD b1 b2 A C:=fun b hb o ho hc=>k b hb o (h b hb o ho hc) hc
theorem KD.of_below{b1 b2:Nat}{W W':World}(h:Below W.heap.size W W'):KD b1 b2 W W':=fun b _ o ho _=>(h.block b (Zb ho)).trans ho
theorem KD.putObj{b1 b2:Nat}(W:World)(l:Nat)(o o':Obj)(h:W.heap[l]?=some o)(hc:o.isCells=false):KD b1 b2 W (W.putObj l o'):=fun b _ x hx hxc =>
 (World.putObj_heap_other (fun e=>by subst e;rw[h] at hx;injection hx with hx;subst hx;rw[hc] at hxc;cases hxc)).trans hx
theorem KD.of_but{b1 b2:Nat}{S:Nat→Prop}{W W':World}(h:But S W W')(h1:¬S b1)(h2:¬S b2):KD b1 b2 W W':=fun b hb o ho _=>(h.block b (Zb ho) (by rcases hb with rfl|rfl<;>assumption)).trans ho
def K6(W:World)(b:Nat)(per ph:Int):Prop:=W.heap[b]?=some (.cells #[.int .i64 per,.int .i64 ph] 62 (0,0))
theorem Qc{β:Type}{B:Nat}{J:β→World→Prop}(h:OwnFrom B J){s:β}{W W':World}(hs:J s W)(hb:Below W.heap.size W W'):J s W' :=
 h s W W' none hs ⟨hb.os,hb.tape,hb.output,hb.size,fun k hk _=>hb.block k hk⟩ (fun r e=>by cases e)
theorem kK{f ph u:Int}(q:1≤f)(g:0≤ph):((Vh f ph u:Nat):Int)≤max u 0:=by
 unfold Vh;split
 ·omega
 rename_i h
 have j:=Int.ediv_le_self f (show 0≤u-1-ph by omega);have m:=Int.ediv_nonneg (show 0≤u-1-ph by omega) (show 0≤f by omega);omega
theorem eN(g ph u:Int)(M:1≤g∧g≤2000∧0≤ph∧ph≤2000)(hu:u≤20000)(C z n l:Nat)(J:List Nat→World→Prop)(W:World)(hJ:OwnFrom W.heap.size J)
  (Y:∀m pre (x:Nat) W1,J pre W1→(x=pre.length∧x<Vh g ph u)→YieldAt Fence.wide m prog l #[.int .i64 (x:Int),.int .i64 (ph+(x:Int)*g)] W1 fun e W'=>e=.returned (.bool true)∧J (pre++[x]) W'∧KD C z W1 W')
  (hb1:K6 W C g ph)(hb2:Boxed W z 2 (.int .i64 u))(h0:J [] W) :
  CallsIn Fence.wide n prog 108 #[.func (.yield l) #[] #[],.pointer (some ⟨C,0,none⟩),.pointer (some ⟨z,0,none⟩)] W fun e W'=>(∃v,e=.returned v)∧∃xs,xs=List.range (Vh g ph u)∧J xs W':=by
 obtain⟨cnt,j⟩:=ez (Vh g ph u);have L:∀k:Nat,k<cnt↔ph+(k:Int)*g<u:=fun k=>by rw[←j];exact Jl M.1 k
 have ab:(cnt:Int)≤20000:=by have:=kK (u:=u) M.1 M.2.2.1;rw[j] at this;omega
 have E:=hid L;rw[j] at Y ⊢;have HY:=hid Y;have HD:=hid (fun(W:World) (k:Nat) (hk:(k:Int)≤20000)=>clock.Zbm g ph (k:Int) W M oq oq);have HB1:=hid hb1;have HB2:=hid hb2;have T:=hid h0;have HJ:=hid hJ;clear Y hb1 hb2 h0 hJ M j L;refine callsIn_of_wp func108 rfl trivial ?_ rfl;simp only[ntmps108,ZI,Zp,Zw,Nat.reduceAdd,Nat.reduceSub,ZF,ZE,ZL,ZJ,ZM,ZC];gi_wp2;gi_loopw [4] (fun v wr=>Hid (∃k:Nat,v=.int .i64 (k:Int)∧k≤cnt∧J (List.range k) wr∧KD C z W wr)) (fun i _=>cnt-(intOf i).toNat)
 case atStart=>exact⟨0,rfl,Zk _,T.out,KD.refl _ _ _⟩
 obtain⟨k,rfl,hk,hj,y⟩:=hrel.out;clear hrel;have q1:wr.heap[C]?=_:=y C (.inl rfl) _ HB1.out rfl;have q2:wr.heap[z]?=_:=y z (.inr rfl) _ HB2.out rfl;obtain⟨⟨x0,x1⟩,xf⟩:=YD q1;have R:=hid q2;have X:=hid y;have D:=hid hj;have O:=hid (fun W=>HD.out W k oq);clear q1 q2 y hj;by_cases H:k<cnt
 ·have hd:=(E.out k).1 H;obtain⟨d,q⟩:=ez (ph+(k:Int)*g);have F:=hid (fun(W1:World) (hb:Below wr.heap.size wr W1)=>HY.out (n-1) (List.range k) k W1 (Qc HJ.out D.out hb) ⟨by simp,H⟩);rw[q] at F O hd;have A:¬u≤d:=oq;have Z:decide (u≤d)=false:=ZZ A;clear q;gi_wp2_with (refine⟨trivial,(fun h=>by cases h),?_⟩;gi_at_call 109;refine(Zt.2 (O.out _)).mono ?_;rintro e w2 ⟨rfl,hb2⟩;obtain⟨fn,aa,assign,body,hy,hR⟩:=F.out _ hb2;have HR:=hid hR;have HB2:=hid hb2;have z2:w2.cell? ⟨z,0,none⟩=some (.int .i64 u):=Boxed.cell (t:=2) ((hb2.block _ (Zb R.out)).trans R.out);clear hR hb2);refine⟨(fun h=>by cases h),HR.out.mono ?_⟩;rintro e W1 ⟨rfl,G,I⟩;have U:=hid G;have V:=hid ((X.out.trans (KD.of_below HB2.out)).trans I);clear G I;gi_wp2;go_roundw
  case rel=>exact⟨k+1,by go_num,H,by rw[Yi];exact U.out,V.out⟩
  simp[intOf];omega
 obtain rfl:k=cnt:=oq;have hd:¬(ph+(k:Int)*g<u):=fun h=>H ((E.out k).2 h)
 obtain⟨d,q⟩:=ez (ph+(k:Int)*g);rw[q] at O hd;have A:u≤d:=oq;have Z:decide (u≤d)=true:=Z0 A;clear q hd H;gi_wp2_with (refine⟨trivial,(fun h=>by cases h),?_⟩;gi_at_call 109;refine(Zt.2 (O.out _)).mono ?_;rintro e w2 ⟨rfl,hb2⟩;have HB2:=hid hb2;have z2:w2.cell? ⟨z,0,none⟩=some (.int .i64 u):=Boxed.cell (t:=2) ((hb2.block _ (Zb R.out)).trans R.out);clear hb2);refine⟨(fun f h=>by cases h),?_⟩;gi_wp2;refine Zl (results_none rfl _ _ _) rfl ?_;exact⟨⟨_,rfl⟩,_,rfl,Qc HJ.out D.out HB2.out⟩
theorem Ku(per ph u:Int)(hr:1≤per∧per≤2000∧0≤ph∧ph≤2000)(hu:u≤20000)(b1 b2 n:Nat)(w:World)(hb1:K6 w b1 per ph)(hb2:Boxed w b2 2 (.int .i64 u)) :
  ZeP Fence.wide n prog 108 #[.pointer (some ⟨b1,0,none⟩),.pointer (some ⟨b2,0,none⟩)] (fun x:Nat=>#[.int .i64 (x:Int),.int .i64 (ph+(x:Int)*per)]) (fun _=>True) (fun pre x _=>x=pre.length∧x<Vh per ph u) (KD b1 b2) (fun xs=>xs=List.range (Vh per ph u)) w:=fun l J W hW hJ _ hY h0 =>
 eN per ph u hr hu b1 b2 n l J W hJ (fun m pre x W1 hj ho=>YieldAt.deep rfl m (hY pre x W1 hj ho)) ((hW.block _ (Zb hb1)).trans hb1) ((hW.block _ hb2.lt).trans hb2) h0
theorem Kt{w:World}(f ph u:Int):Calls prog 65 #[.agg #[.int .i64 f,.int .i64 ph],.int .i64 u] w fun e w'=>e=.returned (.func (.func 108) #[] #[.pointer (some ⟨w.heap.size,0,none⟩),.pointer (some ⟨w.heap.size+1,0,none⟩)])∧Below w.heap.size w w'∧w'.heap.size=w.heap.size+2∧K6 w' w.heap.size f ph∧Boxed w' (w.heap.size+1) 2 (.int .i64 u):=by
 go_enter func65,ntmps65;go_wp2;go_ret;refine⟨by simp,bq,by simp,(Za _ _ _ (by simp)).trans (Yw w _),?_⟩;have:=Boxed.new (w.alloc (.cells #[.int .i64 f,.int .i64 ph] 62)) 2 (.int .i64 u);simpa using this
attribute [local go_sem] ZT
def Q3(f:FD)(u:Int)(i:Nat):Nat:=((List.range i).map (QE f u)).sum
theorem EB(f:FD)(u:Int)(i:Nat):Q3 f u (i+1)=Q3 f u i+QE f u i:=by unfold Q3;rw[Yi,ZU,List.sum_append];simp
def zi(f:FD):Prop:=∀t,t<f.tasks.length→1≤(tkO f t).per∧(tkO f t).per≤2000∧0≤(tkO f t).ph∧(tkO f t).ph≤2000
theorem GC{f:FD}{u:Int}(g:zi f)(j:u≤20000){t:Nat}(ht:t<f.tasks.length):QE f u t≤20000:=by
 have h:=g t ht;have:=kK (u:=u) h.1 h.2.2.1;unfold QE;omega
theorem qH{f:FD}{u:Int}(hc:zi f)(hu:u≤20000):∀i,i≤f.tasks.length→Q3 f u i≤i*20000
 | 0,_=>by simp[Q3]
 | i+1,h=>by
  rw[EB];have h1:=qH hc hu i oq;have h2:=GC hc hu (t:=i) oq;omega
theorem xA{f:FD}{w:World}{g:Option Addr}(h:Row gS 4 w f.tasks g){i:Nat}(hi:i<f.tasks.length):∃b o ad cap,g=some ⟨b,o,none⟩∧b<w.heap.size∧w.cell? ⟨b,o+i*4,none⟩=some (.int .i64 (tkO f i).node)∧w.cell? ⟨b,o+i*4+1,none⟩=some (.int .i64 (tkO f i).per)∧w.cell? ⟨b,o+i*4+2,none⟩=some (.int .i64 (tkO f i).ph)∧w.cell? ⟨b,o+i*4+3,none⟩=some (.slice ad (tkO f i).args.length cap)∧Row xG 2 w (tkO f i).args ad:=by
 obtain⟨b,o,rfl,hb,j,m,q,ad,cap,v,x⟩:=h.at hi;rw[UC hi] at j m q v x;exact⟨b,o,ad,cap,rfl,hb,j,m,q,v,x⟩
theorem jY{w:World}(f:FD)(ai an aT al:Option Addr)(ci cn ct cl:Nat)(hf:FAP w f ai an aT al)(hc:zi f)(hT:f.tasks.length≤30)(u:Int)(hu:u≤20000) :
  Calls prog 23 #[fv f ai an aT al ci cn ct cl,.int .i64 u] w fun x w'=>x=.returned (.bool (decide (4000<Q3 f u f.tasks.length)))∧Below w.heap.size w w':=by
 have ba:=hid hf.tasks;have aw:=hid hc;have ag:=hid (qH hc hu);have ae:=hid (fun t ht=>GC (t:=t) hc hu ht);clear hf hc;unfold fv;obtain⟨T,V⟩:=ez f.tasks.length;rw[V] at hT ag ae ⊢;have ah:=hid V;clear V;refine(Zt (n:=6)).1 ?_;refine callsIn_of_wp_marks func23 rfl trivial ?_ rfl;simp only[ntmps23,ZI,Zp,Zw,Nat.reduceAdd,Nat.reduceSub,ZF,ZE,ZL,ZJ,ZM,ZC];gi_wp2;obtain⟨W0,C⟩:=ez ((w.alloc (.cells #[.slice ai f.ins.length ci,.slice an f.nods.length cn,.slice aT T ct,.slice al f.tells.length cl] 34)).alloc (.cells #[.int .i64 0] 3));have aj:Below w.heap.size w W0:=by rw[←C];exact bq
 have ak:Boxed W0 (w.heap.size+1) 3 (.int .i64 0):=by
  rw[←C];have:=Boxed.new (w.alloc (.cells #[.slice ai f.ins.length ci,.slice an f.nods.length cn,.slice aT T ct,.slice al f.tells.length cl] 34)) 3 (.int .i64 0);simpa using this
 try simp only[Zu]
 rw[C];have aa:=hid aj;have ab:=hid ak;clear C aj ak;refine wpIn_loop (fun a' wr=>Hid (∃(i:Nat)(ds:List Deferred),a'.defers=ds∧a'.tmps.size=26∧slt a'.tmps 1=.int .i64 u∧slt a'.tmps 2=.pointer (some ⟨w.heap.size,0,none⟩)∧slt a'.tmps 4=.bool false∧slt a'.tmps 5=.pointer (some ⟨w.heap.size+1,0,none⟩)∧slt a'.tmps 9=.slice aT T ct∧slt a'.tmps 10=.int .i64 (T:Int)∧slt a'.tmps 11=.int .i64 (i:Int) ∧
  i≤T∧Boxed wr (w.heap.size+1) 3 (.int .i64 (Q3 f u i:Int))∧Below w.heap.size w wr∧Mk w.heap.size wr.heap.size ds wr)) (fun a' _=>T-(intOf (slt a'.tmps 11)).toNat) ?start ?round
 case start=>exact hid ⟨0,_,rfl,rfl,rfl,rfl,rfl,rfl,rfl,rfl,rfl,Zk _,ab.out,aa.out,Mk.nil _ _ _⟩
 clear aa ab;rintro⟨t,O⟩ wr hI;obtain⟨i,ds,h0,g,h1,h2,h4,U,h9,R,z,hi,am,v,ap⟩:=hI.out;clear hI;simp only at h0 g h1 h2 h4 U h9 R z;subst h0;have aq:(T-(intOf (slt (⟨t,O⟩:Act).tmps 11)).toNat)=T-i:=by show T-(intOf (slt t 11)).toNat=_;rw[z];simp[intOf]
 rw[aq];clear aq;rw[Za8 g,h1,h2,h4,U,h9,R,z];generalize slt t 0=u0,slt t 3=u3,slt t 6=u6,slt t 7=u7,slt t 8=u8,slt t 12=u12,slt t 13=u13,slt t 14=u14,slt t 15=u15,slt t 16=u16,slt t 17=u17,slt t 18=u18,slt t 19=u19,slt t 20=u20,slt t 21=u21,slt t 22=u22,slt t 23=u23,slt t 24=u24,slt t 25=u25;clear g h1 h2 h4 U h9 R z t;have HBW:=hid v;have af:=hid ap;have au:=v.size;have j:=hid am;have bk:=ag.out i hi;clear ap am;by_cases G:i<T
 ·obtain⟨b,o,ad,cap,rfl,hb,y0,y1,y2,y3,_⟩:=xA (ba.out.below zd v) (i:=i) (by rw[ah.out];exact G);have E:=aw.out i (by rw[ah.out];exact G);have bc:=ae.out i G;have be:=hid (EB f u i);obtain⟨Z,X⟩:=ez (tkO f i);have L:=hid (show QE f u i=Vh Z.per Z.ph u by unfold QE;rw[X]);rw[X] at y0 y1 y2 y3 E;obtain⟨node,Y,ph,args⟩:=Z;simp only at y0 y1 y2 y3 E L;have ac:=hid E;have i1:(i:Int)<(T:Int):=oq;have ax:=hid (fun W=>Kt (w:=W) Y ph u);clear X v E;gi_wp2_with (refine⟨trivial,?_⟩;gi_at_call 65;refine(Zt.2 (ax.out _)).mono ?_;rintro e w2 ⟨rfl,hb2,H,ao,av⟩;have HB2:=hid hb2;have az:=hid H;have ay:=hid (Zh ao av);clear hb2 H ao av);clear y0 y1 y2 y3;have hb2:=HB2.out;have ar:=hb2.size;have H:=az.out;simp only[Zu] at ar H ⊢;have I:Below w.heap.size w w2:=HBW.out.trans ((Zg _ wr).alloc au _ |>.trans (hb2.mono (by simp;omega)));have y:Boxed w2 (w.heap.size+1) 3 (.int .i64 (Q3 f u i:Int)):=(hb2.block _ (by simp;have:=j.out.lt;omega)).trans (j.out.alloc _);have J:Mk w.heap.size wr.heap.size O w2:=af.out.keep (fun k o _ _ hk _=>(hb2.block k (by simp;have:=Zb hk;omega)).trans ((Za _ _ _ (Zb hk)).trans hk));have bg:=y.lt;have bh:=j.out.lt;have q:=ay.out;simp only[Zu] at q;have M:=hid (Zh I (Zh y J));clear hb2 I y J;refine xk (F:=Fence.wide) (gf:=108) (lb:=#[.pointer (some ⟨wr.heap.size+1,0,none⟩),.pointer (some ⟨wr.heap.size+1+1,0,none⟩)]) rfl oq rfl trivial (enters_of func108 kq rfl)
   (Ku Y ph u ac.out hu (wr.heap.size+1) (wr.heap.size+1+1) _ w2 q.1 q.2) (fun h k=>h.trans k) (fun W l o o' _ h hc=>KD.putObj W l o o' h hc) (fun W W' h=>KD.of_below h) (fun _=>rfl)
   (fun pre W=>Boxed W (w.heap.size+1) 3 (.int .i64 ((Q3 f u i+pre.length:Nat):Int))∧Below w.heap.size w W∧Mk w.heap.size wr.heap.size O W)
   (fun s A B row hs hg hrw=>⟨boxed_own _ _ (fun(_:Unit)=>Value.int .i64 ((Q3 f u i+s.length:Nat):Int)) () A B row hs.1 hg (fun r e=>(hrw r e).2),ownFrom_below (β:=Unit) (Zc _) (show w.heap.size≤w2.heap.size by omega) () A B row hs.2.1 hg hrw,Mk.own (β:=Unit) (show wr.heap.size≤w2.heap.size by omega) () A B row hs.2.2 hg hrw⟩)
   (fun _ _ _=>trivial) ⟨M.out.2.1,M.out.1,M.out.2.2⟩
   (fun pre x a' _=>pre.length<Vh Y ph u∧a'.tmps.size=26∧slt a'.tmps 5=.pointer (some ⟨w.heap.size+1,0,none⟩)∧a'.defers=[])
   (fun pre x a' s A B row hs _ _=>hs) ?assign ?body ?done
  case assign =>
   rintro l pre x W K hi ⟨rfl,hx⟩ hK;gi_wp2;exact hK _ _ (Zg _ _) hi ⟨hx,by simp,by simp[slt],rfl⟩
  case body =>
   rintro l pre x ⟨t,d⟩ W hl hr ⟨hb1,hb2,hb3⟩ ⟨hx,g,U,hd⟩;simp only at g U hd;subst hd;rw[Za8 g,U];generalize slt t 0=u0,slt t 1=u1,slt t 2=u2,slt t 3=u3,slt t 4=u4,slt t 6=u6,slt t 7=u7,slt t 8=u8,slt t 9=u9,slt t 10=u10,slt t 11=u11,slt t 12=u12,slt t 13=u13,slt t 14=u14,slt t 15=u15,slt t 16=u16,slt t 17=u17,slt t 18=u18,slt t 19=u19,slt t 20=u20,slt t 21=u21,slt t 22=u22,slt t 23=u23,slt t 24=u24,slt t 25=u25;clear g U;rw[L.out] at bc;have c1:=hb1.cell;have bb:=hb1.frozen;have bf:=hb1.lt;have HB1:=hid hb1;obtain⟨m,hm⟩:=ez (((Q3 f u i+pre.length:Nat):Int));have bi:0≤m:=oq;have bj:m≤1000000:=oq;rw[hm] at c1 HB1;have HM:=hid hm;clear hm hb1;gi_wp2;refine⟨(KeepsOthers.setCell _ _ _).from _,KD.of_but (show But (fun k=>k=w.heap.size+1) W _ from But.set (S:=fun k=>k=w.heap.size+1) rfl _) oq oq,?_,hb2.setCell (p:=⟨w.heap.size+1,0,none⟩) (by simp) _,hb3.from ((KeepsOthers.setCell _ _ _).from _)⟩;have bd:((Q3 f u i+(pre++[x]).length:Nat):Int)=m+1:=by rw[←HM.out];simp;omega
   rw[bd];exact HB1.out.set _
  rintro D xs W hD rfl ⟨hb1,hb2,hb3⟩ hk;rw[List.length_range,←L.out,←be.out] at hb1;gi_wp2;refine⟨hid ⟨i+1,_,rfl,rfl,rfl,rfl,rfl,rfl,rfl,rfl,by first|(simp[slt];done)|(simp[slt];go_num),G,hb1,hb2,hb3.cons oq oq hk⟩,?_⟩;simp[slt,intOf];omega
 obtain rfl:i=T:=oq;have c1:=j.out.cell;have bb:=j.out.frozen;have i1:¬(i:Int)<(i:Int):=oq;clear v;gi_wp2;refine af.out.leaves (fun W' hW'=>⟨.bool (decide (4000<(Q3 f u i:Int))),?_,?_⟩)
 ·simp only[results,results23];go_simp
 exact⟨by rw[show decide (4000<(Q3 f u i:Int))=decide (4000<Q3 f u i) from decide_eq_decide.2 oq],HBW.out.trans (hW'.below)⟩
theorem Vn{P:Program}{T S I e:TypeId}{g:Field}{nm:String}{x:TypeId}{f n:Nat}(h:(P.info? T).bind (fun i=>i.methods.find? (·.name == nm))=some ⟨nm,x,#[⟨S,0,true⟩],some (f,false)⟩)
  (C:P.underlying S=some (.struct #[g]))(E:g.type=I∧g.offset=0)(A:P.underlying I=some (.slice e))(q:(P.info? I).map (·.size)=some 1){w:World}{b o:Nat}{v:Value}(D:w.cell? ⟨b,o,none⟩=some v) :
  Sem.run P (method (n+1) T (.pointer (some ⟨b,o,none⟩)) nm) w=.ok (f,v) w:=by
 obtain⟨y,z⟩:=E
 cases hq:P.info? T with
 | none=>rw[hq] at h;cases h
 | some i =>
  rw[hq] at h;simp only[Option.bind_some] at h
  cases hj:P.info? I with
  | none=>rw[hj] at q;cases q
  | some j =>
   rw[hj] at q;have F:j.size=1:=by simpa using q
   have m:(⟨b,o,none⟩:Addr).add 0=⟨b,o,none⟩:=by unfold Addr.add;simp
   simp[method,typeInfo,hq,h,follow,receiverAt,Place.get,run_underlying C,run_underlying A,fieldPlace,sizeOf,hj,y,z,F,asAddr,loadVar,isAgg,m,D]
theorem gD{P:Program}{T X:TypeId}{nm:String}{g:TypeId}{f n:Nat}(h:(P.info? T).bind (fun i=>i.methods.find? (·.name == nm))=some ⟨nm,g,#[],some (f,true)⟩)(j:P.underlying T=some (.pointer X))(w:World)(a:Addr) :
  Sem.run P (method (n+1) T (.pointer (some a)) nm) w=.ok (f,.pointer (some a)) w:=by
 cases hq:P.info? T with
 | none=>rw[hq] at h;cases h
 | some i =>
  rw[hq] at h;simp only[Option.bind_some] at h;simp[method,typeInfo,hq,h,follow,receiverAt,Place.get,run_underlying j]
theorem q_len : (prog.info? 200).bind (fun i => i.methods.find? (·.name == "Len")) = some ⟨"Len", 138, #[⟨135, 0, true⟩], some (63, false)⟩ := by kernel_rfl
theorem Zfn : (prog.info? 200).bind (fun i => i.methods.find? (·.name == "Less")) = some ⟨"Less", 245, #[⟨135, 0, true⟩], some (209, false)⟩ := by kernel_rfl
theorem Zfp : (prog.info? 200).bind (fun i => i.methods.find? (·.name == "Swap")) = some ⟨"Swap", 219, #[⟨135, 0, true⟩], some (211, false)⟩ := by kernel_rfl
theorem Zgk : (prog.info? 200).bind (fun i => i.methods.find? (·.name == "Pop")) = some ⟨"Pop", 221, #[], some (218, true)⟩ := by kernel_rfl
theorem Zfo : (prog.info? 200).bind (fun i => i.methods.find? (·.name == "Push")) = some ⟨"Push", 217, #[], some (219, true)⟩ := by kernel_rfl
theorem Zfm:(match prog.underlying 135 with|some (.struct fs)=>some (fs.toList.map (fun f=>(f.type,f.offset)))|_=>none)=some [(133,0)]:=by kernel_rfl
theorem xi:∃fld,prog.underlying 135=some (.struct #[fld])∧fld.type=133∧fld.offset=0:=by
 have h:=Zfm;split at h
 ·rename_i fs hfs
  simp only[Option.some.injEq] at h;obtain⟨l⟩:=fs
  cases l with
  | nil=>simp at h
  | cons f l =>
   cases l with
   | nil =>
    simp at h;exact⟨f,hfs,h.1,h.2⟩
   | cons g l=>simp at h
 cases h
theorem KL:prog.underlying 133=some (.slice 3):=by kernel_rfl
theorem Eu:(prog.info? 133).map (·.size)=some 1:=by kernel_rfl
theorem jC:prog.underlying 200=some (.pointer 135):=by kernel_rfl
theorem Zex (n : Nat) {w : World} {b o : Nat} {v : Value} (hc : w.cell? ⟨b, o, none⟩ = some v) : Sem.run prog (method (n + 1) 200 (.pointer (some ⟨b, o, none⟩)) "Len") w = .ok (63, v) w := by
 obtain⟨fld,h1,h2⟩:=xi;exact Vn (n:=n) q_len h1 h2 KL Eu hc
theorem KN (n : Nat) {w : World} {b o : Nat} {v : Value} (hc : w.cell? ⟨b, o, none⟩ = some v) : Sem.run prog (method (n + 1) 200 (.pointer (some ⟨b, o, none⟩)) "Less") w = .ok (209, v) w := by
 obtain⟨fld,h1,h2⟩:=xi;exact Vn (n:=n) Zfn h1 h2 KL Eu hc
theorem EA (n : Nat) {w : World} {b o : Nat} {v : Value} (hc : w.cell? ⟨b, o, none⟩ = some v) : Sem.run prog (method (n + 1) 200 (.pointer (some ⟨b, o, none⟩)) "Swap") w = .ok (211, v) w := by
 obtain⟨fld,h1,h2⟩:=xi;exact Vn (n:=n) Zfp h1 h2 KL Eu hc
theorem Zge (n : Nat) (w : World) (a : Addr) : Sem.run prog (method (n + 1) 200 (.pointer (some a)) "Pop") w = .ok (218, .pointer (some a)) w := gD (n := n) Zgk jC w a
theorem Zfa (n : Nat) (w : World) (a : Addr) : Sem.run prog (method (n + 1) 200 (.pointer (some a)) "Push") w = .ok (219, .pointer (some a)) w := gD (n := n) Zfo jC w a
def QV(w:World)(B:Nat)(v:Value)(q:List Int):Prop:=w.ownsRow B 3 1 v q.length (ints q)
theorem QV.form{w:World}{B:Nat}{v:Value}{q:List Int}(h:QV w B v q)(j:q≠[]):∃g cap,v=.slice (some ⟨g,0,none⟩) q.length cap∧B≤g∧g<w.heap.size∧(∀i,i<q.length→w.cell? ⟨g,i,none⟩=some (.int .i64 (q.getD i 0)))∧∀i,w.frozen? ⟨g,i,none⟩=false:=by
 have m:0<q.length:=by cases q with
  | nil=>exact absurd rfl j
  | cons _ _=>simp
 have f:=h;rcases h.2 with ⟨_,h1⟩|⟨g,cap,cur,rfl,hb,hg,_⟩
 ·omega
 exact⟨g,cap,rfl,hb,Zb hg,fun i hi=>(World.ownsRow.cellAt f i oq).trans (ints_at hi),World.ownsRow.frozenAt f⟩
theorem GF{w:World}(v:Value)(q:List Int){B:Nat}(h:QV w B v q):Calls prog 63 #[v] w fun x w'=>x=.returned (.int .i64 (q.length:Int))∧w'=w:=by
 obtain⟨f,cap,rfl⟩:=YI h;clear h;go_enter func63,ntmps63;go_wp2;go_ret;exact⟨rfl,rfl⟩
theorem VH{w:World}(v:Value)(q:List Int){B:Nat}(h:QV w B v q)(i j:Nat)(hi:i<q.length)(z:j<q.length) :
  Calls prog 209 #[v,.int .i64 (i:Int),.int .i64 (j:Int)] w fun x w'=>x=.returned (.bool (decide (q.getD i 0<q.getD j 0)))∧∃m,w'=w.drewN m:=by
 obtain⟨g,cap,rfl,A,D,f,C⟩:=h.form (by intro e;rw[e] at hi;simp at hi);have c1:=f i hi;have c2:=f j z;have E:(0:Int)≤(i:Int):=oq;have G:(0:Int)≤(j:Int):=oq;have F:(i:Int)<(q.length:Int):=oq;have H:(j:Int)<(q.length:Int):=oq;generalize q.getD i 0=x at c1 ⊢;generalize q.getD j 0=y at c2 ⊢;clear f h;go_enter func209,ntmps209;go_upto_region 1 with fail
 go_still kq
 change Exit.then _ _ Exit.normal _ w.drew
 go_wp2;go_ret;exact⟨rfl,1,rfl⟩
theorem VP{w:World}(v:Value)(q:List Int){B:Nat}(h:QV w B v q)(i j:Nat)(hi:i<q.length)(E:j<q.length) :
  Calls prog 211 #[v,.int .i64 (i:Int),.int .i64 (j:Int)] w fun x w'=>x=.returned (.tuple #[])∧QV w' B v (swp q i j)∧But (fun k=>v.ownBlock=some k) w w':=by
 obtain⟨g,cap,rfl,O,R,m,z⟩:=h.form (by intro e;rw[e] at hi;simp at hi);have c1:=m i hi;have c2:=m j E;have f1:=z i;have M:=z j;have U:(0:Int)≤(i:Int):=oq;have X:(0:Int)≤(j:Int):=oq;have V:(i:Int)<(q.length:Int):=oq;have Y:(j:Int)<(q.length:Int):=oq;obtain⟨x,A⟩:=ez (q.getD i 0);obtain⟨y,hy⟩:=ez (q.getD j 0);rw[A] at c1;rw[hy] at c2;have main:∀W:World,W.heap=((w.setCell ⟨g,i,none⟩ (.int .i64 y)).setCell ⟨g,j,none⟩ (.int .i64 x)).heap→W.os=w.os→W.tape=w.tape→W.output=w.output→QV W B (.slice (some ⟨g,0,none⟩) q.length cap) (swp q i j)∧But (fun k=>(Value.slice (some ⟨g,0,none⟩) q.length cap).ownBlock=some k) w W:=by
  intro W D H I J;have L:=xh (xh h i (.int .i64 y) hi) j (.int .i64 x) E;have f:But (fun k=>(Value.slice (some ⟨g,0,none⟩) q.length cap).ownBlock=some k) w ((w.setCell ⟨g,i,none⟩ (.int .i64 y)).setCell ⟨g,j,none⟩ (.int .i64 x)):=(But.set (S:=fun k=>(Value.slice (some ⟨g,0,none⟩) q.length cap).ownBlock=some k) (b:=g) (o:=i) rfl _).trans (But.set (S:=fun k=>(Value.slice (some ⟨g,0,none⟩) q.length cap).ownBlock=some k) (b:=g) (o:=j) rfl _);have C:But (fun k=>False) ((w.setCell ⟨g,i,none⟩ (.int .i64 y)).setCell ⟨g,j,none⟩ (.int .i64 x)) W:=⟨H.trans f.os.symm,I.trans f.tape.symm,J.trans f.output.symm,by rw[D];exact Zc _,fun k _ _=>by rw[D]⟩;refine⟨?_,f.then C (fun _ _ e=>e.elim)⟩;have F:=C.own L (fun _ _ e=>e);rw[ints_set,ints_set] at F;unfold QV;rw[XN];unfold swp;rw[A,hy];exact F
 have G:=hid main;obtain⟨u,T⟩:∃u,(w.setCell ⟨g,i,none⟩ (.int .i64 y)).cell? ⟨g,j,none⟩=some u:=by
  have:=World.ownsRow.cellAt (xh h i (.int .i64 y) hi) j oq;rw[this];exact⟨_,Ze (by simp[JC];omega)⟩
 clear main m z h A hy;go_enter func211,ntmps211;go_region
 all_goals go_wp2
 all_goals (go_end0;exact⟨rfl,G.out _ rfl rfl rfl rfl⟩)
theorem gV(x:Int)(w:World):(Instr.typeAssert (.iface 3 (.int .i64 x)) 20 3 false).run prog w=.ok (.int .i64 x) w:=by kernel_rfl
theorem Vj:(prog.info? 3).map (fun i=>(i.zero,i.size,i.bytes))=some (some (.int .i64 0),1,8):=by kernel_rfl
structure QM (w:World) (b o B:Nat) (v:Value) (q:List Int):Prop where
 cell:w.cell? ⟨b,o,none⟩=some v
 fz:w.frozen? ⟨b,o,none⟩=false
 own:QV w B v q
 lt:b<B
 hi:B≤w.heap.size
def Vr(w:World)(b o B:Nat)(v:Value)(q':List Int)(w':World):Prop:=∃v' arr t arr',QM w' b o B v' q'∧(∀k,v'.ownBlock=some k→v.ownBlock=some k∨w.heap.size≤k)∧But (fun k=>k=b∨v.ownBlock=some k) w w' ∧
 w.heap[b]?=some (.cells arr t (0,0))∧w'.heap[b]?=some (.cells arr' t (0,0))∧arr'=arr.setIfInBounds o v'
theorem QM.but{w w':World}{b o B:Nat}{v:Value}{q:List Int}(h:QM w b o B v q){S:Nat→Prop}(hb:But S w w')(g:¬S b)(j:∀k,v.ownBlock=some k→¬S k):QM w' b o B v q:=by
 have f:b<w.heap.size:=Zd h.lt h.hi;exact⟨(Zn (w:=w) (hb.block b f g)).trans h.cell,(Z6 (w:=w) (hb.block b f g)).trans h.fz,hb.own h.own j,h.lt,Zm h.hi hb.size⟩
theorem QM.keep{w w':World}{b o B:Nat}{v:Value}{q:List Int}(h:QM w b o B v q)(hb:Below w.heap.size w w'):QM w' b o B v q:=h.but (But.of_below (S:=fun _=>False) hb) (fun h=>h) (fun _ _ h=>h)
theorem Vt{w:World}{B:Nat}{v:Value}{q:List Int}(h:QV w B v q):∀k,v.ownBlock=some k→B≤k∧k<w.heap.size:=World.ownsRow.lt h
theorem Zay{w:World}{b o B:Nat}{v:Value}{q:List Int}{arr:Array Value}{t:TypeId}(h:QM w b o B v q)(ha:w.heap[b]?=some (.cells arr t (0,0)))(hq:q.length≤100000)(x:Int) :
  Calls prog 219 #[.pointer (some ⟨b,o,none⟩),.iface 3 (.int .i64 x)] w fun y w'=>y=.returned (.tuple #[])∧Vr w b o B v (q++[x]) w':=by
 obtain⟨i0,L,M,O,R⟩:=info_parts Vj;have U:=hid (Zh L (Zh M (Zh O R)));have c0:=h.cell;have f0:=h.fz;have J:=h.lt;have I:=h.hi;have V:=hid h;obtain⟨E,cap,rfl⟩:=YI h.own;have main:∀(A W:World)(m f:Nat),A.ownsRow B 3 1 (.slice (some ⟨m,0,none⟩) (q.length+1) f) (q.length+1) (ints q++[.int .i64 x])→But (fun k=>(Value.slice E q.length cap).ownBlock=some k) w A→((Value.slice E q.length cap).ownBlock=some m∨w.heap.size≤m) →
   W=(A.setCell ⟨b,o,none⟩ (.slice (some ⟨m,0,none⟩) (q.length+1) f))→Vr w b o B (.slice E q.length cap) (q++[x]) W:=by
  intro A W m f ho F aa hW;subst hW;have ac:=Vt V.out.own;have D:b<w.heap.size:=Zd J I;have hb4:=F.block b D (fun e=>by have:=(ac b e).1;omega);have hs:=But.set (S:=fun k=>k=b) (w:=A) (o:=o) rfl (.slice (some ⟨m,0,none⟩) (q.length+1) f);have G:(A.setCell ⟨b,o,none⟩ (.slice (some ⟨m,0,none⟩) (q.length+1) f)).heap[b]?=some (.cells (arr.setIfInBounds o (.slice (some ⟨m,0,none⟩) (q.length+1) f)) t (0,0)):=Zj A b o arr t _ (hb4.trans ha);have ab:o<arr.size:=by
   have:=V.out.cell;rw[Z7 w b o arr t (0,0) ha] at this;exact(Zq.1 this).1
  refine⟨_,arr,t,_,⟨?_,?_,?_,J,Zm I (Zm F.size hs.size)⟩,?_,(F.imp (fun i _ e=>.inr e)).then hs (fun i _ e=>.inl e),ha,G,rfl⟩
  ·rw[Z7 _ b o _ t (0,0) G];simp[ab]
  ·simp[World.frozen?,G]
  ·have:=hs.own ho (fun k hk e=>by have:=(World.ownsRow.lt ho k hk).1;omega);unfold QV;rw[←J5];simpa using this
  intro k hk
  cases hk
  exact aa
 have Y:=hid main;have ag:=gV x;have D:b<w.heap.size:=oq;have ae:¬b=w.heap.size:=oq;clear main h L M O R;go_enter func219,ntmps219;go_region_law (refine step_append_lies _ (by rfl) _ _ _ (by rfl) B 3 i0 _ 1 8 underlying133 U.out.1 U.out.2.1 U.out.2.2.1 U.out.2.2.2 rfl oq (.slice E q.length cap) q.length (ints q) (by rfl) ((V.out.keep bq).own) ⟨w.heap.size,0,none⟩ 1 1 [.int .i64 x] (by rfl) (by rfl) (World.news_of_block (Zz _ _)) (by simp[Value.oneCell']) oq (by unfold maxLen;omega) oq (by simp;omega) (w.heap.size+1) (by simp) ?_;intro m f A z j C af;have g:But (fun k=>(Value.slice E q.length cap).ownBlock=some k) w A:=(But.of_below (bq:Below w.heap.size w _)).then (But.of_grown j) (fun i _ e=>e);have T:¬(Value.slice E q.length cap).ownBlock=some b:=(fun e=>by have:=(Vt V.out.own b e).1;omega);have c4:=(Zn (a:=⟨b,o,none⟩) (g.block b oq T)).trans c0;have f4:=(Z6 (a:=⟨b,o,none⟩) (g.block b oq T)).trans f0;have Z:=hid z;have H:=hid g;have X:=hid (show(Value.slice E q.length cap).ownBlock=some m∨w.heap.size≤m from C.elim .inl (fun e=>.inr oq));clear z j C g)
 all_goals (go_wp2;go_end0;exact⟨rfl,Y.out _ _ m f Z.out H.out X.out rfl⟩)
theorem Zcs{w:World}{b o B:Nat}{v:Value}{q:List Int}{arr:Array Value}{t:TypeId}(h:QM w b o B v q)(D:w.heap[b]?=some (.cells arr t (0,0)))(O:q≠[])(X:q.length≤100000) :
  Calls prog 218 #[.pointer (some ⟨b,o,none⟩)] w fun y w'=>y=.returned (.iface 3 (.int .i64 (q.getD (q.length-1) 0)))∧Vr w b o B v (q.take (q.length-1)) w':=by
 obtain⟨g,cap,rfl,U,hg,L,V⟩:=h.own.form O;have h0:0<q.length:=by cases q with
  | nil=>exact absurd rfl O
  | cons _ _=>simp
 have c0:=h.cell;have Z:=h.fz;have E:=h.lt;have C:=h.hi;obtain⟨n,A⟩:∃n,q.length=n+1:=⟨q.length-1,oq⟩;have c1:=L n oq;have main:Vr w b o B (.slice (some ⟨g,0,none⟩) q.length cap) (q.take (q.length-1)) (w.setCell ⟨b,o,none⟩ (.slice (some ⟨g,0,none⟩) n cap)):=by
  have H:=But.set (S:=fun k=>k=b) (w:=w) (o:=o) rfl (.slice (some ⟨g,0,none⟩) n cap);have j:(w.setCell ⟨b,o,none⟩ (.slice (some ⟨g,0,none⟩) n cap)).heap[b]?=some (.cells (arr.setIfInBounds o (.slice (some ⟨g,0,none⟩) n cap)) t (0,0)):=Zj w b o arr t _ D;have G:o<arr.size:=by
   rw[Z7 w b o arr t (0,0) D] at c0;exact(Zq.1 c0).1
  refine⟨.slice (some ⟨g,0,none⟩) n cap,arr,t,_,⟨?_,?_,?_,E,Zm C H.size⟩,fun k hk=>.inl hk,H.imp (fun i _ e=>.inl e),D,j,rfl⟩
  ·rw[Z7 _ b o _ t (0,0) j];simp[G]
  ·simp[World.frozen?,j]
  have R:=Zco (m:=n) h.own oq;have T:=H.own R (fun k hk e=>by have F:g=k:=(by simpa [Value.ownBlock] using hk);subst F;omega);unfold QV;rw[A,Nat.add_sub_cancel,Yb,show min n q.length=n by omega,show ints (q.take n)=(ints q).take n by unfold ints;rw[List.map_take]];exact T
 have z:=hid main;obtain⟨x,I⟩:=ez (q.getD n 0);have J:=hid (show q.getD (q.length-1) 0=x by rw[A,Nat.add_sub_cancel];exact I);rw[J.out];rw[I] at c1;rw[A] at z c0;rw[A];have Y:IntKind.i64.wrap (((n+1:Nat):Int)-1)=(n:Int):=by rw[show((n+1:Nat):Int)-1=(n:Int) by omega];exact ZK _ oq
 have f:=hid (fun(W:World) (hb:Below w.heap.size w W)=>GF (w:=W) _ q (B:=B) ((h.keep hb).own));rw[A] at f;have n0:(0:Int)≤(n:Int):=oq;have n1:(n:Int)<((n+1:Nat):Int):=oq;have n2:(n:Int)≤((n+1:Nat):Int):=oq;have M:n+1≤cap:=by
  rcases h.own.2 with ⟨e,_⟩|⟨_,_,_,e,_,_,e2,_⟩
  ·cases e
  injection e with _ _ e3;rw[e3];omega
 have n3:(n:Int)≤(cap:Int):=oq;clear main L V h I J;go_enter func218,ntmps218;go_wp2_with (go_at_call 63;refine(f.out _ bq).mono ?_;rintro y w2 ⟨rfl,rfl⟩);go_ret;exact⟨rfl,z.out⟩
structure Zf3 (w:World) (b o B:Nat) (v:Value) (ans:List Int) (n:Nat) (q:List Int) (j:Nat) (wr:World):Prop where
 go:upP n q j=ans
 fuel:j<n
 lt:j<q.length
 len:q.length≤100000
 qm:QM wr b o B v q
 but:But (fun k=>v.ownBlock=some k) w wr
theorem Zen(j:Nat):((j:Int)-1).tdiv 2=(((j-1)/2:Nat):Int):=by
 cases j with
 | zero=>decide
 | succ j =>
  rw[show((j+1:Nat):Int)-1=(j:Int) by omega,Nat.add_sub_cancel];rfl
theorem ZfD{w:World}{b o B:Nat}{v:Value}{q:List Int}(h:QM w b o B v q)(n j:Nat)(Y:j<n)(X:j<q.length)(Z:q.length≤100000) :
  Calls prog 121 #[.iface 200 (.pointer (some ⟨b,o,none⟩)),.int .i64 (j:Int)] w fun y w'=>y=.returned (.tuple #[])∧QM w' b o B v (upP n q j)∧But (fun k=>v.ownBlock=some k) w w':=by
 obtain⟨E,z⟩:=ez (upP n q j);rw[z];have D:=hid (show Zf3 w b o B v E n q j w from ⟨z,Y,X,Z,h,But.refl _ _⟩);clear h Y X Z z;go_enter func121,ntmps121;go_wp2;go_loopw [1] (fun s1 wr=>Hid (∃n q j,s1=.int .i64 ((j:Nat):Int)∧Zf3 w b o B v E n q j wr)) (fun s _=>(intOf s).toNat)
 case atStart=>exact⟨n,q,j,rfl,D.out⟩
 clear D;obtain⟨n,q,j,rfl,x⟩:=hrel.out;clear hrel;have I:=x.len;have H:=x.lt;have aa:=x.fuel;have c0:=x.qm.cell;have f:=hid x;have mL:=fun n=>KN n c0
 have U:=Zen j;obtain⟨i,hi⟩:=ez ((j-1)/2);rw[hi] at U;obtain⟨m,rfl⟩:∃m,n=m+1:=⟨n-1,oq⟩;have g:=x.go;rw[upP,hi] at g;clear x;by_cases G:i=j
 ·rw[Z2 G] at g;subst g;have V:((i:Int) == (j:Int))=true:=by rw[beq_iff_eq];omega
  go_wp2;go_end0;exact⟨rfl,f.out.qm,f.out.but⟩
 rw[Z1 G] at g;have V:((i:Int) == (j:Int))=false:=by rw[ZY];omega
 have ab:i<j:=oq;have A:=hid (VH (w:=wr) v q f.out.qm.own j i H oq);by_cases M:q.getD j 0<q.getD i 0
 ·rw[Z2 M] at g;rw[Z0 M] at A;have O:=hid g;clear g hi;go_wp2_with (first|(go_at_call 209;refine A.out.mono ?_;rintro y w2 ⟨rfl,C,rfl⟩;have mS:=fun n=>EA n (w:=wr.drewN C) (b:=b) (o:=o) (v:=v) c0;have T:=hid (VP (w:=wr.drewN C) v q (show QV (wr.drewN C) B v q from f.out.qm.own) i j oq H))|(go_at_call 211;refine T.out.mono ?_;rintro y w3 ⟨rfl,J,hb3⟩;have R:=hid J;have HB3:=hid hb3;clear J hb3));have hb:But (fun k=>v.ownBlock=some k) wr w3:=((But.refl _ wr).drewN C).trans HB3.out;have L:¬v.ownBlock=some b:=fun e=>by have:=(Vt f.out.qm.own b e).1;have:=f.out.qm.lt;omega
  have F:b<wr.heap.size:=Zd f.out.qm.lt f.out.qm.hi;exact⟨hid ⟨m,swp q i j,i,rfl,O.out,oq,by rw[XN];omega,by rw[XN];exact I,⟨(Zn (w:=wr) (hb.block b F L)).trans f.out.qm.cell,(Z6 (w:=wr) (hb.block b F L)).trans f.out.qm.fz,R.out,f.out.qm.lt,Zm f.out.qm.hi hb.size⟩,f.out.but.trans hb⟩,by simp[intOf];omega⟩
 rw[Z1 M] at g;subst g;rw[ZZ M] at A;clear hi;go_wp2_with (go_at_call 209;refine A.out.mono ?_;rintro y w2 ⟨rfl,C,rfl⟩);go_end0;have hb:But (fun k=>v.ownBlock=some k) wr (wr.drewN C):=(But.refl _ wr).drewN C;exact⟨rfl,⟨f.out.qm.cell,f.out.qm.fz,f.out.qm.own,f.out.qm.lt,f.out.qm.hi⟩,f.out.but.trans hb⟩
structure GM (w:World) (b o B:Nat) (v:Value) (ans:List Int) (n:Nat) (k:Nat) (q:List Int) (i:Nat) (wr:World):Prop where
 go:QH k q i n=ans
 fuel:n-i≤k
 le:n≤q.length
 lt:i<n∨n=0∧i=0
 len:q.length≤100000
 qm:QM wr b o B v q
 but:But (fun k=>v.ownBlock=some k) w wr
theorem GM.next{w:World}{b o B:Nat}{v:Value}{f:List Int}{n k i g:Nat}{q:List Int}{wr:World}(h:GM w b o B v f n (k+1) q i wr)(z:g<n∧i<g)(x:QH k (swp q i g) g n=f){w3:World}{m2:Nat}
  (y:QV w3 B v (swp q i g))(hb3:But (fun k=>v.ownBlock=some k) (wr.drewN m2) w3):GM w b o B v f n k (swp q i g) g w3:=by
 have hb:But (fun k=>v.ownBlock=some k) wr w3:=((But.refl _ wr).drewN m2).trans hb3;have m:¬v.ownBlock=some b:=fun e=>by have:=(Vt h.qm.own b e).1;have:=h.qm.lt;omega
 have j:b<wr.heap.size:=Zd h.qm.lt h.qm.hi;have A:=h.fuel;have C:=h.lt;exact⟨x,oq,by rw[XN];exact h.le,.inl z.1,by rw[XN];exact h.len,⟨(Zn (w:=wr) (hb.block b j m)).trans h.qm.cell,(Z6 (w:=wr) (hb.block b j m)).trans h.qm.fz,y,h.qm.lt,Zm h.qm.hi hb.size⟩,h.but.trans hb⟩
def ZfJ(y:Ending):Prop:=∃c:Bool,y=.returned (.bool c)
theorem Zbp{w:World}{b o B:Nat}{v:Value}{q:List Int}(h:QM w b o B v q)(k n:Nat)(hn:n≤q.length)(hk:n≤k)(hq:q.length≤100000) :
  Calls prog 122 #[.iface 200 (.pointer (some ⟨b,o,none⟩)),.int .i64 0,.int .i64 (n:Int)] w fun y w'=>ZfJ y∧QM w' b o B v (QH k q 0 n)∧But (fun k=>v.ownBlock=some k) w w':=by
 obtain⟨D,j⟩:=ez (QH k q 0 n);rw[j];have ab:=hid (show GM w b o B v D n k q 0 w from ⟨j,oq,hn,oq,hq,h,But.refl _ _⟩);clear h hk hn hq j;go_enter func122,ntmps122;go_wp2;go_loopw [7] (fun s7 wr=>Hid (∃k q i,s7=.int .i64 ((i:Nat):Int)∧GM w b o B v D n k q i wr)) (fun s _=>n-(intOf s).toNat)
 case atStart=>exact⟨k,q,0,rfl,ab.out⟩
 clear ab;obtain⟨k,q,i,rfl,F⟩:=hrel.out;clear hrel;have ak:=F.len;have aq:=F.le;have al:=F.fuel;have ac:=F.lt;have c0:=F.qm.cell;have x:=hid F;have G:=F.go;have mL:=fun n=>KN n c0
 obtain⟨O,Z⟩:=ez (2*i+1);obtain⟨U,H⟩:=ez (2*i+2);have e1:2*(i:Int)+1=(O:Int):=oq;have e2:(O:Int)+1=(U:Int):=oq;have n1:¬(O:Int)<0:=oq;have am:i≤100000:=oq;have aj:O≤200001:=oq;clear F;by_cases ap:n≤O
 ·have j:q=D:=by
   cases k with
   | zero=>exact G
   | succ k=>rw[QH,Z2 oq] at G;exact G
  subst j;have ah:(n:Int)≤(O:Int):=oq;clear G ac Z H;go_wp2
  all_goals (go_ret;exact⟨⟨_,rfl⟩,x.out.qm,x.out.but⟩)
 obtain⟨k,rfl⟩:∃m,k=m+1:=⟨k-1,oq⟩;rw[QH,Z1 oq] at G;have ah:¬(n:Int)≤(O:Int):=oq;have ai:(O:Int)<(n:Int):=oq;have I:=uh (l:=q) (i:=i) (n:=n) oq;have M:yZ q i n=if U<n∧q.getD U 0<q.getD O 0 then U else O:=by unfold yZ;rw[Z,H]
 obtain⟨C,ae⟩:=ez (yZ q i n);rw[ae] at G I M;have z:=hid G;have Y:=hid I;have ao:=I.1;have an:=I.2;clear G ae I Z ac;by_cases ag:U<n
 ·have af:(U:Int)<(n:Int):=oq;have A:=hid (VH (w:=wr) v q x.out.qm.own U O oq oq);by_cases X:q.getD U 0<q.getD O 0
  ·rw[Z2 ⟨ag,X⟩] at M;subst M;rw[Z0 X] at A;have f:=hid (fun m=>VH (w:=wr.drewN m) v q x.out.qm.own C i oq oq);by_cases g:q.getD C 0<q.getD i 0
   ·have HG:=hid (show QH k (swp q i C) C n=D by have:=z.out;rw[Z2 g] at this;exact this);rw[Z0 g] at f;clear X g z H;go_wp2_with (first|(go_at_call 209;refine A.out.mono ?_;rintro y V ⟨rfl,E,rfl⟩;have aa:=fun n=>KN n (w:=wr.drewN E) (b:=b) (o:=o) (v:=v) c0;have L:=hid (f.out E);clear A)|(go_at_call 209;refine L.out.mono ?_;rintro y V ⟨rfl,m2,rfl⟩;have mS:=fun n=>EA n (w:=wr.drewN (E+m2)) (b:=b) (o:=o) (v:=v) c0;have T:=hid (VP (w:=wr.drewN (E+m2)) v q (show QV _ B v q from x.out.qm.own) i C oq oq))|(go_at_call 211;refine T.out.mono ?_;rintro y w3 ⟨rfl,J,hb3⟩;have R:=hid J;have HB3:=hid hb3;clear J hb3));exact⟨hid ⟨k,swp q i C,C,rfl,x.out.next Y.out HG.out (m2:=E+m2) R.out HB3.out⟩,by simp[intOf];omega⟩
   have j:q=D:=by have:=z.out;rw[Z1 g] at this;exact this
   rw[ZZ g] at f;subst j;clear X g z H;go_wp2_with (first|(go_at_call 209;refine A.out.mono ?_;rintro y V ⟨rfl,E,rfl⟩;have aa:=fun n=>KN n (w:=wr.drewN E) (b:=b) (o:=o) (v:=v) c0;have L:=hid (f.out E);clear A)|(go_at_call 209;refine L.out.mono ?_;rintro y V ⟨rfl,m2,rfl⟩))
   all_goals (go_ret;exact⟨⟨_,rfl⟩,⟨x.out.qm.cell,x.out.qm.fz,x.out.qm.own,x.out.qm.lt,x.out.qm.hi⟩,x.out.but.trans ((But.refl _ wr).drewN (E+m2))⟩)
  rw[Z1 (fun e=>X e.2)] at M;subst M;rw[ZZ X] at A;have f:=hid (fun m=>VH (w:=wr.drewN m) v q x.out.qm.own C i oq oq);by_cases g:q.getD C 0<q.getD i 0
  ·have HG:=hid (show QH k (swp q i C) C n=D by have:=z.out;rw[Z2 g] at this;exact this);rw[Z0 g] at f;clear X g z H;go_wp2_with (first|(go_at_call 209;refine A.out.mono ?_;rintro y V ⟨rfl,E,rfl⟩;have aa:=fun n=>KN n (w:=wr.drewN E) (b:=b) (o:=o) (v:=v) c0;have L:=hid (f.out E);clear A)|(go_at_call 209;refine L.out.mono ?_;rintro y V ⟨rfl,m2,rfl⟩;have mS:=fun n=>EA n (w:=wr.drewN (E+m2)) (b:=b) (o:=o) (v:=v) c0;have T:=hid (VP (w:=wr.drewN (E+m2)) v q (show QV _ B v q from x.out.qm.own) i C oq oq))|(go_at_call 211;refine T.out.mono ?_;rintro y w3 ⟨rfl,J,hb3⟩;have R:=hid J;have HB3:=hid hb3;clear J hb3));exact⟨hid ⟨k,swp q i C,C,rfl,x.out.next Y.out HG.out (m2:=E+m2) R.out HB3.out⟩,by simp[intOf];omega⟩
  have j:q=D:=by have:=z.out;rw[Z1 g] at this;exact this
  rw[ZZ g] at f;subst j;clear X g z H;go_wp2_with (first|(go_at_call 209;refine A.out.mono ?_;rintro y V ⟨rfl,E,rfl⟩;have aa:=fun n=>KN n (w:=wr.drewN E) (b:=b) (o:=o) (v:=v) c0;have L:=hid (f.out E);clear A)|(go_at_call 209;refine L.out.mono ?_;rintro y V ⟨rfl,m2,rfl⟩))
  all_goals (go_ret;exact⟨⟨_,rfl⟩,⟨x.out.qm.cell,x.out.qm.fz,x.out.qm.own,x.out.qm.lt,x.out.qm.hi⟩,x.out.but.trans ((But.refl _ wr).drewN (E+m2))⟩)
 have af:¬(U:Int)<(n:Int):=oq;rw[Z1 (fun e=>ag e.1)] at M;subst M;have f:=hid (VH (w:=wr) v q x.out.qm.own C i oq oq);by_cases g:q.getD C 0<q.getD i 0
 ·have HG:=hid (show QH k (swp q i C) C n=D by have:=z.out;rw[Z2 g] at this;exact this);rw[Z0 g] at f;clear g z H;go_wp2_with (first|(go_at_call 209;refine f.out.mono ?_;rintro y V ⟨rfl,m2,rfl⟩;have mS:=fun n=>EA n (w:=wr.drewN m2) (b:=b) (o:=o) (v:=v) c0;have T:=hid (VP (w:=wr.drewN m2) v q (show QV _ B v q from x.out.qm.own) i C oq oq))|(go_at_call 211;refine T.out.mono ?_;rintro y w3 ⟨rfl,J,hb3⟩;have R:=hid J;have HB3:=hid hb3;clear J hb3));exact⟨hid ⟨k,swp q i C,C,rfl,x.out.next Y.out HG.out (m2:=m2) R.out HB3.out⟩,by simp[intOf];omega⟩
 have j:q=D:=by have:=z.out;rw[Z1 g] at this;exact this
 rw[ZZ g] at f;subst j;clear g z H;go_wp2_with (go_at_call 209;refine f.out.mono ?_;rintro y V ⟨rfl,m2,rfl⟩)
 all_goals (go_ret;exact⟨⟨_,rfl⟩,⟨x.out.qm.cell,x.out.qm.fz,x.out.qm.own,x.out.qm.lt,x.out.qm.hi⟩,x.out.but.trans ((But.refl _ wr).drewN m2)⟩)
theorem Vr.qm{w w':World}{b o B:Nat}{v:Value}{q:List Int}(h:Vr w b o B v q w'):∃v',QM w' b o B v' q:=by
 obtain⟨v',arr,t,f,g,_⟩:=h;exact⟨v',g⟩
theorem Vr.then{w w' w2:World}{b o B:Nat}{v v':Value}{x:List Int}{arr f:Array Value}{t:TypeId}(q:∀k,v'.ownBlock=some k→v.ownBlock=some k∨w.heap.size≤k)(hb:But (fun k=>k=b∨v.ownBlock=some k) w w')
  (y:w.heap[b]?=some (.cells arr t (0,0)))(m:w'.heap[b]?=some (.cells f t (0,0)))(z:f=arr.setIfInBounds o v')(j:QM w2 b o B v' x)(hb2:But (fun k=>v'.ownBlock=some k) w' w2):Vr w b o B v x w2:=by
 have g:¬v'.ownBlock=some b:=fun e=>by have:=(Vt j.own b e).1;have:=j.lt;omega
 refine⟨v',arr,t,f,j,q,hb.then hb2 (fun i hi e=>?_),y,(hb2.block b (Zb m) g).trans m,z⟩;rcases q i e with h|h
 ·exact .inr h
 omega
theorem zR{w:World}{b o B:Nat}{v:Value}{q:List Int}{arr:Array Value}{t:TypeId}(h:QM w b o B v q)(H:w.heap[b]?=some (.cells arr t (0,0)))(R:q.length≤10000)(x:Int) :
  Calls prog 80 #[.iface 200 (.pointer (some ⟨b,o,none⟩)),.iface 3 (.int .i64 x)] w fun y w'=>y=.returned (.tuple #[])∧Vr w b o B v (Jg q x) w':=by
 have J:=hid (Zay h H oq x);have U:=fun n w=>Zfa n w ⟨b,o,none⟩
 clear h H;go_enter func80,ntmps80;go_wp2_with (first|(go_at_call 219;refine J.out.mono ?_;rintro y O ⟨rfl,I,F,V,G,f,g,hb2,j,m,z⟩;have c2:=f.cell;have T:=fun n=>Zex n c2;have L:=hid f;have C:=hid (GF I (q++[x]) f.own);have D:=hid (fun(W:World) (hW:W=O)=>ZfD (w:=W) (b:=b) (o:=o) (B:=B) (v:=I) (q:=q++[x]) (hW▸f) (q.length+1) q.length oq (by simp) (by simp;omega));have A:=hid (Zh g (Zh hb2 (Zh j (Zh m z))));clear f g hb2 j m z)|(go_at_call 63;refine C.out.mono ?_;rintro y X ⟨rfl,rfl⟩;have M:(((q++[x]).length:Nat):Int)-1=(q.length:Int):=(by simp))|(go_at_call 121;refine(D.out _ rfl).mono ?_;rintro y Y ⟨rfl,E,hb4⟩));go_end0;obtain⟨g,hb2,j,m,z⟩:=A.out;exact⟨rfl,Vr.then g hb2 j m z E hb4⟩
theorem ZbH{w:World}{b o B:Nat}{v:Value}{q:List Int}{arr:Array Value}{t:TypeId}(h:QM w b o B v q)(U:w.heap[b]?=some (.cells arr t (0,0)))(hq:q≠[])(aa:q.length≤10000) :
  Calls prog 81 #[.iface 200 (.pointer (some ⟨b,o,none⟩))] w fun y w'=>y=.returned (.iface 3 (.int .i64 (QD q).1))∧Vr w b o B v (QD q).2 w':=by
 have h0:0<q.length:=by cases q with
  | nil=>exact absurd rfl hq
  | cons _ _=>simp
 obtain⟨n,hn⟩:∃n,q.length=n+1:=⟨q.length-1,oq⟩;have c0:=h.cell;have f:b<w.heap.size:=Zd h.lt h.hi;have j:¬v.ownBlock=some b:=fun e=>by have:=(Vt h.own b e).1;have:=h.lt;omega
 have mL:=fun n=>Zex n c0
 have mS:=fun n=>EA n c0
 have J:=hid (GF v q h.own);have R:=hid (VP (w:=w) v q h.own 0 n oq oq);have I:Qj q=QH q.length (swp q 0 n) 0 n:=by unfold Qj;rw[show q.length-1=n by omega]
 have m:=hid (fun(W:World) (h1:QV W B v (swp q 0 n)) (h2:But (fun k=>v.ownBlock=some k) w W) =>
  Zbp (w:=W) (b:=b) (o:=o) (B:=B) (v:=v) (q:=swp q 0 n) ⟨(Zn (w:=w) (h2.block b f j)).trans h.cell,(Z6 (w:=w) (h2.block b f j)).trans h.fz,h1,h.lt,Zm h.hi h2.size⟩ q.length n (by rw[XN];omega) oq (by rw[XN];omega))
 rw[←I] at m;have A:=hid (fun(W:World) (h1:QM W b o B v (Qj q)) (h2:But (fun k=>v.ownBlock=some k) w W)=>Zcs (w:=W) h1 ((h2.block b f j).trans U) (by intro e;have:=Jt q;rw[e] at this;simp at this;omega) (by rw[Jt];omega));have E:QD q=((Qj q).getD ((Qj q).length-1) 0,(Qj q).take ((Qj q).length-1)):=by unfold QD;rw[Jt]
 rw[E];simp only;have HH:=hid h;have z:=hid U;have ab:IntKind.i64.wrap ((q.length:Int)-1)=(n:Int):=by rw[show(q.length:Int)-1=(n:Int) by omega];exact ZK _ oq
 have ac:(q.length:Int)-1=(n:Int):=oq;have mP:=fun n w=>Zge n w ⟨b,o,none⟩
 obtain⟨x,hx⟩:=ez ((Qj q).getD ((Qj q).length-1) 0);obtain⟨q',F⟩:=ez ((Qj q).take ((Qj q).length-1));rw[hx,F] at A ⊢;clear h U hq I E hx F;go_enter func81,ntmps81;go_wp2_with (first|(go_at_call 63;refine J.out.mono ?_;rintro y w3 ⟨rfl,rfl⟩)|(go_at_call 211;refine R.out.mono ?_;rintro y w2 ⟨rfl,G,hb2⟩;have M:=hid G;have HB2:=hid hb2;clear G hb2)|(go_at_call 122;refine(m.out _ M.out HB2.out).mono ?_;rintro y w4 ⟨⟨cc,rfl⟩,H,hb4⟩;have O:=hid H;have HB4:=hid (HB2.out.trans hb4);clear H hb4)|(go_at_call 218;refine(A.out _ O.out HB4.out).mono ?_;rintro y w5 ⟨rfl,D⟩;have L:=hid D;clear D));go_ret;obtain⟨v5,Z,t1,C,Y,T,hb5,g,V,X⟩:=L.out;have e1:=(HB4.out.block b f j).trans z.out;rw[e1] at g;injection g with g
 injection g with g hh4 hh5
 subst g;subst hh4;refine⟨rfl,v5,arr,t,C,Y,fun k hk=>?_,?_,z.out,V,X⟩
 ·rcases T k hk with h1|h1
  ·exact .inl h1
  exact .inr (Zm HB4.out.size h1)
 exact(HB4.out.imp (fun i _ e=>.inr e)).then hb5 (fun i hi e=>e)
def RB(c:Nat)(rd:List (List Int)):Prop:=∀r∈rd,r.length≤c
theorem RB.getD{c:Nat}{rd:List (List Int)}(h:RB c rd)(i:Nat):(rd.getD i []).length≤c:=by
 by_cases hi:i<rd.length
 ·rw[Zf,Ze hi];exact h _ (Zi hi)
 rw[Zf,Yc oq];simp
theorem RB.mono{c d:Nat}{rd:List (List Int)}(h:RB c rd)(hd:c≤d):RB d rd:=fun r hr=>Zm (h r hr) hd
theorem RB.add{c t:Nat}{rd:List (List Int)}(h:RB c rd)(x:Int):RB (c+1) (addR t rd x):=by
 intro r f;unfold addR at f;rcases QS f with f|rfl
 ·exact Nat.le_succ_of_le (h r f)
 rw[Zx];have:=h.getD x.toNat;simp only[Zp,Zw];omega
theorem RB.adds{t:Nat}:∀(l:List Int)(c:Nat)(rd:List (List Int)),RB c rd→RB (c+l.length) (l.foldl (addR t) rd)
 | [],c,rd,h=>h
 | x::l,c,rd,h=>by
  have:=RB.adds (t:=t) l (c+1) _ (h.add (t:=t) x);rw[show c+(x::l).length=c+1+l.length by simp;omega];exact this
theorem xc(f:FD)(hh:∀(n:Nat)(d:TD),f.tasks[n]?=some d→(Y8 f d).length≤1000):∀n,RB (n*1000) (XD f n).rd
 | 0=>by
  intro r hr;have:=List.eq_of_mem_replicate (show r∈List.replicate f.tasks.length [] from hr);subst this;simp
 | n+1=>by
  have ih:=xc f hh n;rw[Jr]
  cases h:f.tasks[n]? with
  | none=>unfold QW;rw[h];exact ih.mono oq
  | some d =>
   rw[JD h];exact(RB.adds (Y8 f d) _ _ ih).mono (by have:=hh n d h;omega)
def MB(c:Nat)(l:List Int):Prop:=∀x∈l,-(c:Int)≤x∧x≤100000
theorem MB.getD{c:Nat}{l:List Int}(h:MB c l)(i:Nat):-(c:Int)≤l.getD i 0∧l.getD i 0≤100000:=by
 by_cases hi:i<l.length
 ·rw[Zf,Ze hi];exact h _ (Zi hi)
 rw[Zf,Yc oq];simp
theorem MB.mono{c d:Nat}{l:List Int}(h:MB c l)(hd:c≤d):MB d l:=fun x hx=>⟨by have:=(h x hx).1;omega,(h x hx).2⟩
theorem MB.read{c:Nat}{s:WS}(h:MB c s.many)(r:Int):MB (c+1) (YG s r).many:=by
 intro x f;unfold YG at f;rcases QS f with f|rfl
 ·have:=h x f;omega
 have:=h.getD r.toNat;omega
theorem MB.reads:∀(l:List Int)(c:Nat)(s:WS),MB c s.many→MB (c+l.length) (l.foldl YG s).many
 | [],c,s,h=>h
 | r::l,c,s,h=>by
  have:=MB.reads l (c+1) _ (h.read r);rw[show c+(r::l).length=c+1+l.length by simp;omega];exact this
theorem kZ(f:FD)(hh:∀(n:Nat)(d:TD),f.tasks[n]?=some d→(Y8 f d).length≤1000):∀n,MB 0 (XD f n).many
 | 0=>by
  intro x hx;have:=List.eq_of_mem_replicate (show x∈List.replicate f.tasks.length (0:Int) from hx);subst this;omega
 | n+1=>by
  have ih:=kZ f hh n;rw[Jr]
  cases h:f.tasks[n]? with
  | none=>unfold QW;rw[h];exact ih
  | some d =>
   rw[JD h];intro x hx;rcases QS hx with hx|rfl
   ·exact ih x hx
   have:=hh n d h;omega
theorem EU:∀(l:List Int)(s:WS),(l.foldl YG s).rd=s.rd
 | [],s=>rfl
 | r::l,s=>(EU l (YG s r)).trans rfl
theorem ZdP(s:WS):(YP s).2.rd=s.rd:=by unfold YP;simp only;rw[EU]
theorem MB.next{c d:Nat}{s:WS}(h:MB c s.many)(f:RB d s.rd):MB (c+d) (YP s).2.many:=by
 unfold YP;simp only;exact(MB.reads _ _ ⟨(QD s.q).2,s.many,s.rd⟩ h).mono (by have:=f.getD (QD s.q).1.toNat;omega)
theorem Zgf(s:WS):s.q.length≤muW s:=by unfold muW;omega
theorem xp(l:List Value)(i:Nat)(u:Value):l.toArray.setIfInBounds i u=(l.set i u).toArray:=by simp
structure WaM (W2 W:World) (T wb mb rb:Nat) (vq:Value) (vs:List Value) (s:WS):Prop where
 but:But (fun k=>k=mb∨k=rb∨k=wb) W2 W
 lt:mb<W2.heap.size∧rb<W2.heap.size∧wb<W2.heap.size
 ne:mb≠rb∧mb≠wb∧rb≠wb
 box:W.heap[wb]?=some (.cells #[vq,.slice (some ⟨mb,0,none⟩) T T,.slice (some ⟨rb,0,none⟩) T T] 137 (0,0))
 many:W.heap[mb]?=some (.cells (ints s.many).toArray 3 (0,0))
 rds:W.heap[rb]?=some (.cells vs.toArray 41 (0,0))
 fam:Fam W W2.heap.size 3 (vq::vs) (ints s.q::s.rd.map ints)
 ok:WOk T s
variable {W2 W W':World} {T wb mb rb:Nat} {vq:Value} {vs:List Value} {s:WS}
theorem WaM.vlen(h:WaM W2 W T wb mb rb vq vs s):vs.length=T:=by
 have:=h.fam.len;simpa [h.ok.rd] using this
theorem WaM.size(h:WaM W2 W T wb mb rb vq vs s):W2.heap.size≤W.heap.size:=h.but.size
theorem WaM.turn(h:WaM W2 W T wb mb rb vq vs s)(hb:Below W.heap.size W W'):WaM W2 W' T wb mb rb vq vs s:=by
 have f:=h.lt;have g:=h.size;exact⟨h.but.trans (But.of_below hb),h.lt,h.ne,(hb.block _ oq).trans h.box,(hb.block _ oq).trans h.many,(hb.block _ oq).trans h.rds,h.fam.below hb,h.ok⟩
theorem WaM.manyAt(h:WaM W2 W T wb mb rb vq vs s){t:Nat}(ht:t<T):W.cell? ⟨mb,t,none⟩=some (.int .i64 (s.many.getD t 0))∧W.frozen? ⟨mb,t,none⟩=false:=by
 refine⟨?_,by simp[World.frozen?,h.many]⟩;rw[Z7 W mb t _ _ (0,0) h.many,List.getElem?_toArray];exact ints_at (by rw[h.ok.many];exact ht)
theorem WaM.rdAt(h:WaM W2 W T wb mb rb vq vs s){t:Nat}(ht:t<T):∃v,vs[t]?=some v∧W.cell? ⟨rb,t,none⟩=some v∧W.frozen? ⟨rb,t,none⟩=false∧QV W W2.heap.size v (s.rd.getD t []):=by
 have f:t<vs.length:=by rw[h.vlen];exact ht
 have g:t<s.rd.length:=by rw[h.ok.rd];exact ht
 refine⟨vs[t],Ze f,?_,by simp[World.frozen?,h.rds],?_⟩
 ·rw[Z7 W rb t _ _ (0,0) h.rds,List.getElem?_toArray,Ze f]
 have j:=h.fam.own (t+1) vs[t] (ints (s.rd.getD t [])) (by rw[List.getElem?_cons_succ,Ze f]) (by rw[List.getElem?_cons_succ,List.getElem?_map,Ze g,Zf,Ze g];rfl);rw[JC] at j;exact j
theorem WaM.setMany(h:WaM W2 W T wb mb rb vq vs s)(t:Nat)(x:Int):WaM W2 (W.setCell ⟨mb,t,none⟩ (.int .i64 x)) T wb mb rb vq vs ⟨s.q,s.many.set t x,s.rd⟩:=by
 have f:=h.ne;refine⟨h.but.trans (But.set (S:=fun k=>k=mb∨k=rb∨k=wb) (.inl rfl) _),h.lt,h.ne,(Zr _ _ _ _ (fun e=>f.2.1 e.symm)).trans h.box,?_,(Zr _ _ _ _ (fun e=>f.1 e.symm)).trans h.rds,h.fam.set h.lt.1 _,⟨h.ok.q,by simp[h.ok.many],h.ok.rd,h.ok.rds⟩⟩;have:=Zj W mb t (ints s.many).toArray 3 (.int .i64 x) h.many;rw[xp,ints_set] at this;exact this
theorem WaM.qm(h:WaM W2 W T wb mb rb vq vs s):QM W wb 0 W2.heap.size vq s.q:=by
 refine⟨?_,by simp[World.frozen?,h.box],?_,h.lt.2.2,h.size⟩
 ·rw[Z7 W wb 0 _ _ (0,0) h.box];rfl
 have:=h.fam.own 0 vq (ints s.q) rfl rfl;rw[JC] at this;exact this
theorem WaM.queue(h:WaM W2 W T wb mb rb vq vs s){m:List Int}(F:Vr W wb 0 W2.heap.size vq m W')(G:∀x∈m,0≤x∧x<(T:Int)):∃vq',WaM W2 W' T wb mb rb vq' vs ⟨m,s.many,s.rd⟩∧(∀k,vq'.ownBlock=some k→vq.ownBlock=some k∨W.heap.size≤k)∧But (fun k=>k=wb∨vq.ownBlock=some k) W W':=by
 obtain⟨vq',arr,t,v,q,y,hb,f,A,C⟩:=F;rw[h.box] at f;injection f with f
 injection f with f h4 _
 subst f;subst h4;have g:=h.lt;have z:=h.ne;have H:=h.size;have j:=Vt h.qm.own;have hold:∀k,k<W2.heap.size→k≠wb→W'.heap[k]?=W.heap[k]?:=fun k hk hne=>hb.block k oq (fun e=>by
  rcases e with e|e
  ·exact hne e
  have:=(j k e).1;omega)
 refine⟨vq',⟨h.but.then hb (fun i hi e=>?_),h.lt,h.ne,?_,(hold mb g.1 z.2.1).trans h.many,(hold rb g.2.1 z.2.2).trans h.rds,?_,⟨G,h.ok.many,h.ok.rd,h.ok.rds⟩⟩,y,hb⟩
 ·rcases e with e|e
  ·exact .inr (.inr e)
  have:=(j i e).1;omega
 ·rw[A,C,xp];rfl
 have E:W'.ownsRow W2.heap.size 3 1 vq' (ints m).length (ints m):=by rw[JC];exact q.own
 have D:=h.fam.put (i:=0) rfl (hb.imp (fun k _ e=>e.elim (fun e=>.inr oq) .inl)) E y;simpa using D
theorem WaM.other(h:WaM W2 W T wb mb rb vq vs s){S:Nat→Prop}(hb:But S W W')(g:∀k,S k→W2.heap.size≤k∧vq.ownBlock≠some k∧∀(i:Nat)(v:Value),vs[i]?=some v→v.ownBlock≠some k):WaM W2 W' T wb mb rb vq vs s:=by
 have f:=h.lt;have q:=h.size;have hold:∀k,k<W2.heap.size→W'.heap[k]?=W.heap[k]?:=fun k hk=>hb.block k oq (fun e=>by have:=(g k e).1;omega)
 refine⟨h.but.then hb (fun i hi e=>by have:=(g i e).1;omega),h.lt,h.ne,(hold _ f.2.2).trans h.box,(hold _ f.1).trans h.many,(hold _ f.2.1).trans h.rds,h.fam.but hb (fun i v k hv hk hs=>?_),h.ok⟩;obtain⟨_,j,m⟩:=g k hs
 cases i with
 | zero =>
  cases hv
  exact j hk
 | succ i =>
  rw[List.getElem?_cons_succ] at hv;exact m i v hv hk
theorem WaM.app(h:WaM W2 W T wb mb rb vq vs s){i t:Nat}(hi:i<T)(ht:t<T){v v':Value}(A:vs[i]?=some v){w4:World}(hb:But (fun k=>v.ownBlock=some k) W w4)(F:w4.ownsRow W2.heap.size 3 1 v' ((s.rd.getD i []).length+1) (ints (s.rd.getD i [])++[.int .i64 (t:Int)]))
  (y:∀k,v'.ownBlock=some k→v.ownBlock=some k∨W.heap.size≤k):WaM W2 (w4.setCell ⟨rb,i,none⟩ v') T wb mb rb vq (vs.set i v') ⟨s.q,s.many,addR t s.rd (i:Int)⟩:=by
 have f:=h.lt;have z:=h.ne;have G:=h.size;have g:∀k,v.ownBlock=some k→W2.heap.size≤k:=fun k hk=>(h.fam.block (i:=i+1) (by rw[List.getElem?_cons_succ];exact A) k hk).1
 have hold:∀k,k<W2.heap.size→w4.heap[k]?=W.heap[k]?:=fun k hk=>hb.block k oq (fun e=>by have:=g k e;omega)
 have m:=But.set (S:=fun k=>k=mb∨k=rb∨k=wb) (w:=w4) (b:=rb) (o:=i) (.inr (.inl rfl)) v';refine⟨(h.but.then hb (fun k hk e=>by have:=g k e;omega)).trans m,h.lt,h.ne,(Zr _ _ _ _ (fun e=>z.2.2 e.symm)).trans ((hold _ f.2.2).trans h.box),(Zr _ _ _ _ z.1).trans ((hold _ f.1).trans h.many),?_,?_,?_⟩
 ·have:=Zj w4 rb i vs.toArray 41 v' ((hold _ f.2.1).trans h.rds);rw[xp] at this;exact this
 ·have E:=h.fam.put (i:=i+1) (by rw[List.getElem?_cons_succ];exact A) (hb.imp (fun k _ e=>.inl e)) (xs':=ints (s.rd.getD i [])++[.int .i64 (t:Int)]) (by rw[Zx,JC];exact F) y;have j:=E.set (b:=rb) (o:=i) f.2.1 v';rw[List.set_cons_succ,List.set_cons_succ] at j;unfold addR;rw[ZQ,List.map_set,←J5];exact j
 obtain⟨C,D⟩:=WOk.addR (x:=(i:Int)) ht h.ok.rd h.ok.rds;exact⟨h.ok.q,h.ok.many,C,D⟩
theorem Gy{w:World}{b:Nat}{f g j:Value}{t:TypeId}(h:w.heap[b]?=some (.cells #[f,g,j] t (0,0))):(w.cell? ⟨b,0,none⟩=some f∧w.cell? ⟨b,1,none⟩=some g∧w.cell? ⟨b,2,none⟩=some j)∧∀o,w.frozen? ⟨b,o,none⟩=false:=by
 refine⟨⟨?_,?_,?_⟩,?_⟩
 all_goals first|(intro o;simp[World.frozen?,h])|simp[World.cell?,h]
theorem gU(x:Int)(w:World):(Instr.typeAssert (.iface 3 (.int .i64 x)) 20 3 false).run prog w=.ok (.int .i64 x) w:=by kernel_rfl
theorem qU{W2 w:World}{T J mb rb:Nat}{V:Value}{vs:List Value}{s:WS}(hw:WaM W2 w T J mb rb V vs s)(hq:s.q≠[])(bx:s.q.length≤5000){c:Nat}(hc:c≤1000000000000)(am:MB c s.many)(ax:RB 2000000 s.rd)(an:muW s≤5000) :
  Calls prog 64 #[.pointer (some ⟨J,0,none⟩)] w fun x w'=>x=.returned (.int .i64 (YP s).1)∧∃vq',WaM W2 w' T J mb rb vq' vs (YP s).2∧(∀k,vq'.ownBlock=some k→V.ownBlock=some k∨w.heap.size≤k)∧But (fun k=>k=mb∨k=J∨V.ownBlock=some k) w w':=by
 have aw:=ER hq hw.ok.q;obtain⟨i,hi⟩:∃i:Nat,(QD s.q).1=(i:Int):=⟨(QD s.q).1.toNat,oq⟩;have al:i<T:=oq;have ac:=hid (ZbH (w:=w) hw.qm hw.box hq oq);have aq:YP s=((i:Int),(s.rd.getD i []).foldl YG ⟨(QD s.q).2,s.many,s.rd⟩):=by unfold YP;rw[hi,ZQ]
 have bl:=jA s.q;have X:=hid aw.2;have h0:0<s.q.length:=by cases M:s.q with
  | nil=>exact absurd M hq
  | cons _ _=>simp
 rw[aq];rw[hi] at ac;simp only;obtain⟨I,M⟩:=ez ((QD s.q).2);rw[M] at ac X bl ⊢;have ao:muW ⟨I,s.many,s.rd⟩≤5000:=by unfold muW at an ⊢;simp only at an ⊢;omega
 have HW:=hid hw;have bd:=hid am;have cb:=gU (i:Int);have bm:=ax.getD i;have i0:(0:Int)≤(i:Int):=oq;have i1:(i:Int)<(T:Int):=oq;obtain⟨A,O⟩:=ez (s.rd.getD i []);rw[O] at bm ⊢;clear hw aw aq am ax hq M hi;go_enter func64,ntmps64;go_upto_region 2 with (go_at_call 81;refine ac.out.mono ?_;rintro y w1 ⟨rfl,ar⟩;have be:=hid ar;clear ar)
 obtain⟨bp,U,ba,Y⟩:=HW.out.queue be.out X.out;have C:=hid (Zh ba (show But (fun k=>k=mb∨k=J∨V.ownBlock=some k) w w1 from Y.imp (fun k _ e=>.inr e)));clear ba Y;obtain⟨⟨b0,b1,b2⟩,bf⟩:=Gy U.box;obtain⟨v,hv,r0,r1,z⟩:=U.rdAt al;simp only at z;rw[O] at z;obtain⟨av,cv,rfl⟩:=YI z;have bi:=hid U;have HV:=hid hv;clear U hv z;go_wp2;go_loopw [20] (fun s20 wr=>Hid (∃j H,s20=.int .i64 ((j:Nat):Int)∧j≤A.length∧WaM W2 wr T J mb rb H vs ((A.take j).foldl YG ⟨I,s.many,s.rd⟩)∧(∀k,H.ownBlock=some k→V.ownBlock=some k∨w.heap.size≤k)∧But (fun k=>k=mb∨k=J∨V.ownBlock=some k) w wr)) (fun s _=>A.length-(intOf s).toNat)
 case atStart=>exact⟨0,bp,rfl,Zk _,bi.out,C.out⟩
 clear b0 b1 b2 bf r0 r1 C;obtain⟨wi,rfl⟩:=ey wr;obtain⟨j,H,rfl,hj,f,D,Z⟩:=hrel.out;clear hrel;have C:=hid (Zh D Z);clear D Z;by_cases g:j<A.length
 ·have R:(A.take (j+1)).foldl YG ⟨I,s.many,s.rd⟩=YG ((A.take j).foldl YG ⟨I,s.many,s.rd⟩) (A.getD j 0):=by
   rw[Zv g,List.foldl_append];simp only[List.foldl_cons,List.foldl_nil];rw[Zf,Ze g];rfl
  have L:=MB.reads (A.take j) c ⟨I,s.many,s.rd⟩ bd.out;have ap:=Zm (Zgf _) (Zm (ET (A.take j) ⟨I,s.many,s.rd⟩) ao);have G:=EU (A.take j) ⟨I,s.many,s.rd⟩;rw[Yb] at L;obtain⟨s2,az⟩:=ez ((A.take j).foldl YG ⟨I,s.many,s.rd⟩);rw[az] at f R L ap G;simp only at G;have af:=Zcv f.ok i;rw[G,O] at af;obtain⟨x0,x1⟩:=af _ (J3 g);obtain⟨k,hk⟩:∃k:Nat,A.getD j 0=(k:Int):=⟨(A.getD j 0).toNat,oq⟩;rw[hk] at R x1;have ag:k<T:=oq;obtain⟨v2,D,r0,r1,z⟩:=f.rdAt al;rw[HV.out] at D;injection D with D
  subst D;rw[G,O] at z;obtain⟨gv,bs,ev,_,_,ak,_⟩:=z.form (by intro e;rw[e] at g;simp at g);injection ev with ev _ ev2
  subst ev;subst ev2;have c0:=ak j g;rw[hk] at c0;obtain⟨⟨b0,b1,b2⟩,bf⟩:=Gy f.box;obtain⟨m0,m1⟩:=f.manyAt ag;have ah:=L.getD k;obtain⟨m,hm⟩:=ez (s2.many.getD k 0);rw[hm] at m0 ah;have ay:YG s2 (k:Int)=⟨if m-1=0 then Jg s2.q (k:Int) else s2.q,s2.many.set k (m-1),s2.rd⟩:=by unfold YG;rw[ZQ,hm]
  have ai:=hid (R.trans ay);have F:=f.setMany k (m-1);obtain⟨n0,n1⟩:=F.manyAt ag;simp only at n0;have hgd:(s2.many.set k (m-1)).getD k 0=m-1:=by rw[Zf,List.getElem?_set_self (by rw[f.ok.many];exact ag)];rfl
  rw[hgd] at n0;obtain⟨⟨d0,d1,d2⟩,df⟩:=Gy F.box;have HW2:=hid F;have bh:=hid (zR (w:=wi.setCell ⟨mb,k,none⟩ (.int .i64 (m-1))) F.qm F.box (show s2.q.length≤10000 by omega) (k:Int));have bc:=hid (V8 (l:=s2.q) (x:=(k:Int)) f.ok.q ⟨oq,x1⟩);have bt:(0:Int)≤(j:Int):=oq;have bu:(j:Int)<(A.length:Int):=oq;have k0:(0:Int)≤(k:Int):=oq;have bw:m≤100000:=ah.2;have bv:-9000000000000000000≤m:=oq;clear R ay az G af x0 hk ak F hgd hm L z ah;by_cases E:m-1=0
  ·have ae:=hid (show(A.take (j+1)).foldl YG ⟨I,s.many,s.rd⟩=⟨Jg s2.q (k:Int),s2.many.set k (m-1),s2.rd⟩ by have:=ai.out;rw[Z2 E] at this;exact this);have he:(m-1 == 0)=true:=by rw[beq_iff_eq];exact E
   have br:=hid E;clear E f;go_wp2_with (go_at_call 80;refine bh.out.mono ?_;rintro y w7 ⟨rfl,au⟩;have bg:=hid au;clear au);obtain⟨vq',bo,bn,aj⟩:=HW2.out.queue bg.out bc.out;obtain⟨bb,aa⟩:=C.out;have bz:=aa.size;have ab:But (fun k=>k=mb∨k=J∨V.ownBlock=some k) w (wi.setCell ⟨mb,k,none⟩ (.int .i64 (m-1))):=aa.trans (But.set (S:=fun k=>k=mb∨k=J∨V.ownBlock=some k) (.inl rfl) _);have ca:=ab.size;refine⟨hid ⟨j+1,vq',by go_num,g,by rw[ae.out];exact bo,fun k hk=>?_,ab.then aj (fun k hk e=>?_)⟩,by simp[intOf];omega⟩
   ·rcases bn k hk with h1|h1
    ·exact bb k h1
    exact .inr oq
   rcases e with e|e
   ·exact .inr (.inl e)
   rcases bb k e with h1|h1
   ·exact .inr (.inr h1)
   omega
  have ae:=hid (show(A.take (j+1)).foldl YG ⟨I,s.many,s.rd⟩=⟨s2.q,s2.many.set k (m-1),s2.rd⟩ by have:=ai.out;rw[Z1 E] at this;exact this);have he:(m-1 == 0)=false:=by rw[ZY];exact E
  clear f;go_wp2;exact⟨hid ⟨j+1,H,by go_num,g,by rw[ae.out];exact HW2.out,C.out.1,C.out.2.trans (But.set (S:=fun k=>k=mb∨k=J∨V.ownBlock=some k) (.inl rfl) _)⟩,by simp[intOf];omega⟩
 have bk:j=A.length:=oq;subst bk;rw[ZS] at f;have bj:=hid f;clear f;go_wp2;go_ret;exact⟨rfl,H,bj.out,C.out⟩
end Go.Proofs.YtgigilkpndhddaaGreatDoor.syn
