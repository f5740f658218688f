/- Parts of the proof. -/
import Derived.Test.YtlhlcdjiafdoeaaGreatDoorV05
import Derived.Test.YtlhlcdjiafdoeaaGreatDoorV07
set_option linter.all false
set_option maxRecDepth 100000
set_option maxHeartbeats 16000000
namespace Go.Proofs.YtlhlcdjiafdoeaaGreatDoor.body
open Go.RowKit
def opP (s:List UInt8) (a b:Int):Int :=
 if s=[43] then wrap64 (a+b)
 else if s=[45] then wrap64 (a-b)
 else if s=[42] then wrap64 (a*b)
 else if s=[47] then (if b=0 then 0 else wrap64 (a.tdiv b))
 else if s=[37] then (if b=0 then 0 else a.tmod b)
 else if s=[60] then (if a<b then 1 else 0)
 else if s=[61,61] then (if a=b then 1 else 0)
 else 0
theorem Kc {k:IntKind} {a b:Int} (h:a=b):Ending.returned (.int k a)=.returned (.int k b):=by rw[h]
theorem Ep (c:Bool) (w:World):Calls Tryz.prog 191 #[.bool c] w fun e w'=>e=.returned (.int .i64 (if c=true then 1 else 0))∧w=w':=by
 cases c<;>(go_enter Tryz.func191,Tryz.ntmps191;go_wp2;go_ret;exact⟨rfl,rfl⟩)
theorem Q7 {s:ByteArray} {l:List UInt8} (h:s.toList=l):s=⟨l.toArray⟩:=by
 obtain⟨⟨d⟩⟩:=s
 rw[Lib.toList_data] at h
 simp at h;subst h;rfl
theorem ZbB (s:ByteArray) (a b:Int) (w:World) (a1:-9223372036854775808≤a) (a2:a≤9223372036854775807) (b1:-9223372036854775808≤b) (b2:b≤9223372036854775807) :
  Calls Tryz.prog 183 #[.string s,.int .i64 a,.int .i64 b] w fun e w'=>e=.returned (.int .i64 (opP s.toList a b))∧∃m,w'=w.drewN m:=by
 by_cases h1:s.toList=[43]
 ·rw[h1,show opP [43] a b=wrap64 (a+b) from rfl]
  obtain rfl:=Q7 h1
  clear h1 a1 a2 b1 b2
  go_enter Tryz.func183,Tryz.ntmps183
  go_wp2
  go_ret
  exact⟨rfl,0,rfl⟩
 by_cases h2:s.toList=[45]
 ·rw[h2,show opP [45] a b=wrap64 (a-b) from rfl]
  obtain rfl:=Q7 h2
  clear h1 h2 a1 a2 b1 b2
  go_enter Tryz.func183,Tryz.ntmps183
  go_wp2
  go_ret
  exact⟨rfl,0,rfl⟩
 by_cases h3:s.toList=[42]
 ·rw[h3,show opP [42] a b=wrap64 (a*b) from rfl]
  obtain rfl:=Q7 h3
  clear h1 h2 h3 a1 a2 b1 b2
  go_enter Tryz.func183,Tryz.ntmps183
  go_wp2
  go_ret
  exact⟨rfl,0,rfl⟩
 by_cases h4:s.toList=[47]
 ·rw[h4,show opP [47] a b=if b=0 then 0 else wrap64 (a.tdiv b) from rfl]
  obtain rfl:=Q7 h4
  clear h1 h2 h3 h4 a1 a2 b1 b2
  by_cases hb:b=0
  ·subst hb
   go_enter Tryz.func183,Tryz.ntmps183
   go_wp2
   go_ret
   exact⟨rfl,0,rfl⟩
  rw[Yr hb]
  have hb':(b == 0)=false:=by simpa using hb
  go_enter Tryz.func183,Tryz.ntmps183
  go_wp2
  go_ret
  exact⟨rfl,0,rfl⟩
 by_cases h5:s.toList=[37]
 ·rw[h5,show opP [37] a b=if b=0 then 0 else a.tmod b from rfl]
  obtain rfl:=Q7 h5
  clear h1 h2 h3 h4 h5 a1 a2 b1 b2
  by_cases hb:b=0
  ·subst hb
   go_enter Tryz.func183,Tryz.ntmps183
   go_wp2
   go_ret
   exact⟨rfl,0,rfl⟩
  rw[Yr hb]
  have hb':(b == 0)=false:=by simpa using hb
  go_enter Tryz.func183,Tryz.ntmps183
  go_wp2
  go_ret
  exact⟨rfl,0,rfl⟩
 by_cases h6:s.toList=[60]
 ·rw[h6,show opP [60] a b=if a<b then 1 else 0 from rfl]
  obtain rfl:=Q7 h6
  clear h1 h2 h3 h4 h5 h6 a1 a2 b1 b2
  go_enter Tryz.func183,Tryz.ntmps183
  go_wp2_with (go_at_call 191;refine(Ep _ _).mono ?_;rintro e w' ⟨rfl,rfl⟩)
  all_goals
   go_ret
   exact⟨rfl,0,rfl⟩
 by_cases h7:s.toList=[61,61]
 ·rw[h7,show opP [61,61] a b=if a=b then 1 else 0 from rfl]
  obtain rfl:=Q7 h7
  clear h1 h2 h3 h4 h5 h6 h7 a1 a2 b1 b2
  go_enter Tryz.func183,Tryz.ntmps183
  go_wp2_with (go_at_call 191;refine(Ep _ _).mono ?_;rintro e w' ⟨rfl,rfl⟩)
  all_goals
   go_ret
   exact⟨rfl,0,rfl⟩
 rw[show opP s.toList a b=0 by unfold opP;rw[Yr h1,Yr h2,Yr h3,Yr h4,Yr h5,Yr h6,Yr h7]]
 have e1:(s.toList == [43])=false:=(by simpa using h1);have e2:(s.toList == [45])=false:=(by simpa using h2);have e3:(s.toList == [42])=false:=(by simpa using h3);have e4:(s.toList == [47])=false:=(by simpa using h4);have e5:(s.toList == [37])=false:=(by simpa using h5);have e6:(s.toList == [60])=false:=(by simpa using h6);have e7:(s.toList == [61,61])=false:=(by simpa using h7)
 clear h1 h2 h3 h4 h5 h6 h7 a1 a2 b1 b2
 go_enter Tryz.func183,Tryz.ntmps183
 go_wp2
 go_ret
 exact⟨rfl,0,rfl⟩
theorem ZcS (a:Int):IntKind.u64.wrap a=a%18446744073709551616:=by
 rfl
theorem jF {a b:Int} (h:a=b):Ending.returned (.int .u64 a)=.returned (.int .u64 b):=by rw[h]
theorem Gq (a:Int) (w:World) (a1:-9223372036854775808≤a) (a2:a≤9223372036854775807) :
  Calls Tryz.prog 137 #[.int .i64 a] w fun e w'=>e=.returned (.int .u64 (plain.sz a))∧∃m,w'=w.drewN m:=by
 by_cases ha:a<0
 ·go_enter Tryz.func137,Tryz.ntmps137
  go_wp2
  go_ret
  exact⟨jF (by rw[plain.ZbU oz,ZcS,ZcS];omega),0,rfl⟩
 go_enter Tryz.func137,Tryz.ntmps137
 go_wp2
 go_ret
 exact⟨jF (by rw[plain.un oz]),0,rfl⟩
theorem Gd {a b c d:Int} (h:a=b) (h':c=d):Ending.returned (.tuple #[.int .i64 a,.int .i64 c])=.returned (.tuple #[.int .i64 b,.int .i64 d]):=by rw[h,h']
end Go.Proofs.YtlhlcdjiafdoeaaGreatDoor.body
namespace Go.Proofs.YtlhlcdjiafdoeaaGreatDoor.syn
open Go.RowKit
def opE (nm:ByteArray) (a b c:Int):Int:=if nm.toList=[63] then (if a≠0 then b else c) else body.opP nm.toList a b
def sgE (T:ByteArray→Int) (k:Int) (nm:ByteArray) (n:Int):Int:=if k=11 then T nm else if k=12 then n else 0
def evA (T:ByteArray→Int):PL→Nat→Int
 | .nil,_=>0
 | .cons k nm n _ args _ _,0=>if k=13 then opE nm (evA T args 0) (evA T args 1) (evA T args 2) else sgE T k nm n
 | .cons _ _ _ _ _ _ tl,i+1=>evA T tl i
def evE (T:ByteArray→Int) (e:PE):Int:=if e.k=13 then opE e.nm (evA T e.args 0) (evA T e.args 1) (evA T e.args 2) else sgE T e.k e.nm e.n
theorem qe (T:ByteArray→Int):∀(l:PL) (i:Nat) (e:PE),l.at i=some e→evA T l i=evE T e
 | .cons k nm n d args a tl,0,e,h=>by injection h with h;subst h;rfl
 | .cons _ _ _ _ _ _ tl,i+1,e,h=>qe T tl i e h
theorem zP (T:ByteArray→Int):∀(l:PL) (i:Nat),l.len≤i→evA T l i=0
 | .nil,_,_=>rfl
 | .cons _ _ _ _ _ _ tl,0,h=>by simp[PL.len] at h
 | .cons _ _ _ _ _ _ tl,i+1,h=>zP T tl i (by simp only[PL.len] at h;omega)
def At (w:World) (x:Addr) (e:PE):Prop:=∃b o ad cap,x=⟨b,o,none⟩∧(∃cs t,w.heap[b]?=some (.cells cs t (0,0)))∧w.cell? ⟨b,o,none⟩=some (.int .i64 e.k)∧w.cell? ⟨b,o+1,none⟩=some (.string e.nm)∧w.cell? ⟨b,o+2,none⟩=some (.int .i64 e.n) ∧
 w.cell? ⟨b,o+3,none⟩=some (.int .i64 e.d)∧w.cell? ⟨b,o+5,none⟩=some (.int .i64 e.a)∧w.cell? ⟨b,o+4,none⟩=some (.slice ad e.args.len cap)∧e.args.len≤cap∧SlA w (fun _=>True) e.args ad
theorem Gr {w:World}:∀(l:PL) (b o i:Nat) (e:PE),(∃cs t,w.heap[b]?=some (.cells cs t (0,0)))→X1 w (fun _=>True) b l o→l.at i=some e→At w ⟨b,o+i*6,none⟩ e
 | .cons k nm n d args a tl,b,o,0,e,hb,h,he=>by
  injection he with he
  subst he
  obtain⟨h0,h1,h2,h3,h5,⟨ad,cap,h4,hcap,hd⟩,ht⟩:=h
  refine⟨b,o,ad,cap,by simp,hb,h0,h1,h2,h3,h5,h4,hcap,?_⟩
  rcases hd with hd|⟨b',o',e',hb',hd⟩
  ·exact .inl hd
  exact .inr ⟨b',o',e',hb',hd⟩
 | .cons k nm n d args a tl,b,o,i+1,e,hb,h,he=>by
  have:=Gr tl b (o+6) i e hb h.2.2.2.2.2.2 he
  rw[show o+(i+1)*6=o+6+i*6 by omega]
  exact this
theorem At.arg {w:World} {x:Addr} {e:PE} (h:At w x e) {i:Nat} (hi:i<e.args.len):∃b o cap,w.cell? ⟨x.block,x.off+4,none⟩=some (.slice (some ⟨b,o,none⟩) e.args.len cap)∧∃e',e.args.at i=some e'∧At w ⟨b,o+i*6,none⟩ e':=by
 obtain⟨bx,ox,ad,cap,rfl,hb,h0,h1,h2,h3,h5,h4,hcap,hs⟩:=h
 obtain⟨e',he',_⟩:=PL.at_some e.args i hi
 rcases hs with hs|⟨b,o,rfl,⟨_,cs,hcs⟩,hc⟩
 ·rw[hs] at hi;exact absurd hi (Yi _)
 exact⟨b,o,cap,h4,e',he',Gr _ _ _ _ _ ⟨cs,_,hcs⟩ hc he'⟩
theorem cells_one {w:World}:∀(l l':PL) (b o:Nat),l.len=l'.len→X1 w (fun _=>True) b l o→X1 w (fun _=>True) b l' o→l=l':=by
 intro l
 induction l with
 | nil =>
  intro l' b o hl _ _
  exact(E6 hl.symm).symm
 | cons k nm n d args a tl ih1 ih2 =>
  intro l' b o hl h h'
  cases l' with
  | nil=>simp[PL.len] at hl
  | cons k' nm' n' d' args' a' tl' =>
   obtain⟨h0,h1,h2,h3,h5,⟨ad,cap,h4,hcap,hd⟩,ht⟩:=h
   obtain⟨g0,g1,g2,g3,g5,⟨ad',cap',g4,gcap,gd⟩,gt⟩:=h'
   have e0:=h0.symm.trans g0
   have e1:=h1.symm.trans g1
   have e2:=h2.symm.trans g2
   have e3:=h3.symm.trans g3
   have e4:=h4.symm.trans g4
   have e5:=h5.symm.trans g5
   simp only[Option.some.injEq,Value.int.injEq,true_and,Value.string.injEq,Value.slice.injEq] at e0 e1 e2 e3 e4 e5
   obtain⟨e4,e6,e7⟩:=e4
   subst e0;subst e1;subst e2;subst e3;subst e5;subst e4
   have ha:args=args':=by
    rcases hd with hd|⟨b1,o1,x1,_,hd⟩
    ·rw[hd] at e6 ⊢
     exact(E6 e6.symm).symm
    rcases gd with gd|⟨b2,o2,x2,_,gd⟩
    ·rw[gd] at e6 ⊢
     exact E6 e6
    rw[x1] at x2
    injection x2 with x2
    injection x2 with x2 x3
    subst x2;subst x3
    exact ih1 args' _ _ e6 hd gd
   subst ha
   rw[ih2 tl' b (o+6) (by simpa [PL.len] using hl) ht gt]
theorem At.one {w:World} {x:Addr} {e e':PE} (h:At w x e) (h':At w x e'):e=e':=by
 obtain⟨b,o,ad,cap,rfl,hb,h0,h1,h2,h3,h5,h4,hcap,hd⟩:=h
 obtain⟨b',o',ad',cap',hx,gb,g0,g1,g2,g3,g5,g4,gcap,gd⟩:=h'
 injection hx with x1 x2
 subst x1;subst x2
 obtain⟨k,nm,n,d,args,a⟩:=e
 obtain⟨k',nm',n',d',args',a'⟩:=e'
 have e0:=h0.symm.trans g0
 have e1:=h1.symm.trans g1
 have e2:=h2.symm.trans g2
 have e3:=h3.symm.trans g3
 have e4:=h4.symm.trans g4
 have e5:=h5.symm.trans g5
 simp only[Option.some.injEq,Value.int.injEq,true_and,Value.string.injEq,Value.slice.injEq] at e0 e1 e2 e3 e4 e5
 obtain⟨e4,e6,e7⟩:=e4
 subst e0;subst e1;subst e2;subst e3;subst e5;subst e4
 have ha:args=args':=by
  simp only at hd gd e6
  rcases hd with hd|⟨b1,o1,x1,_,hd⟩
  ·rw[hd] at e6 ⊢
   exact(E6 e6.symm).symm
  rcases gd with gd|⟨b2,o2,x2,_,gd⟩
  ·rw[gd] at e6 ⊢
   exact E6 e6
  rw[x1] at x2
  injection x2 with x2
  injection x2 with x2 x3
  subst x2;subst x3
  exact cells_one _ _ _ _ e6 hd gd
 subst ha
 rfl
def K0 (w:World) (a:Addr):Prop:=∃b o cs t,a=⟨b,o,none⟩∧w.heap[b]?=some (.cells cs t (0,0))
theorem K0.keep {w w':World} {a:Addr} (h:K0 w a) (hk:∀(b:Nat) (cs:Array Value) (t:TypeId),w.heap[b]?=some (Obj.cells cs t (0,0))→∃cs',w'.heap[b]?=some (Obj.cells cs' t (0,0))):K0 w' a:=by
 obtain⟨b,o,cs,t,rfl,h1⟩:=h
 obtain⟨cs',h2⟩:=hk b cs t h1
 exact⟨b,o,cs',t,rfl,h2⟩
theorem ZaE {P:Program} {w:World} {x y:Addr} (hx:K0 w x) (hy:K0 w y):(sameAddr x y).run P w=.ok (decide (x=y)) w:=by
 obtain⟨b1,o1,c1,t1,rfl,h1⟩:=hx
 obtain⟨b2,o2,c2,t2,rfl,h2⟩:=hy
 by_cases hb:b1=b2
 ·subst hb
  have e:(sameAddr ⟨b1,o1,none⟩ ⟨b1,o2,none⟩).run P w=.ok ((⟨b1,o1,none⟩:Addr) == ⟨b1,o2,none⟩) w:=by simp[sameAddr]
  rw[e]
  rfl
 have hb':(b1 == b2)=false:=by simpa using hb
 have s1:w.shape? b1=some (t1,c1.size):=by simp[World.shape?,h1]
 have s2:w.shape? b2=some (t2,c2.size):=by simp[World.shape?,h2]
 have z1:∀o,w.frozen? ⟨b1,o,none⟩=false:=fun o=>by simp[World.frozen?,h1]
 have z2:∀o,w.frozen? ⟨b2,o,none⟩=false:=fun o=>by simp[World.frozen?,h2]
 have hd:decide ((⟨b1,o1,none⟩:Addr)=⟨b2,o2,none⟩)=false:=ZX (fun e=>hb (by injection e))
 rw[hd]
 simp only[sameAddr,hb',Bool.false_eq_true,if_false,Sem.run_bind,run_frozen,ZO,z1,z2,Bool.false_and,noView,viewAt,run_shape,s1,s2,Option.isSome,if_true,Sem.run_pure,mayBeOne,stringish,Bool.or_self]
theorem Zcx {T K E X:TypeId} {z:Value} (M:XR T K E X z) {w:World} {x y:Addr} (hx:K0 w x) (hy:K0 w y):(Op.equal K (.pointer (some x)) (.pointer (some y))).run Tryz.prog w=.ok (decide (x=y)) w:=by
 obtain⟨m,hz⟩:=M.size w
 obtain⟨d,hd⟩:∃d,Op.maxDepth=d+1:=⟨9999,rfl⟩
 have h:=ZaE (P:=Tryz.prog) hx hy
 unfold Op.equal
 rw[hd]
 simp[Op.equalIn,run_underlying M.key,hz,h]
def JH (k:Addr):List (Addr × Value)→Nat→Option (Nat × Value)
 | [],_=>none
 | p::L,i=>if k=p.1 then some (i,p.2) else JH k L (i+1)
def Xz (k:Addr):List (Addr × Value)→Option Value
 | []=>none
 | p::L=>if k=p.1 then some p.2 else Xz k L
def QC (k:Addr) (v:Value):List (Addr × Value)→List (Addr × Value)
 | []=>[(k,v)]
 | p::L=>if k=p.1 then (k,v)::L else p::QC k v L
theorem V5 (k k':Addr) (v:Value):∀L:List (Addr × Value),Xz k' (QC k v L)=if k'=k then some v else Xz k' L
 | []=>by simp[QC,Xz]
 | p::L=>by
  unfold QC
  by_cases h:k=p.1
  ·rw[Z0 h]
   unfold Xz
   by_cases h2:k'=k
   ·simp[h2]
   simp[h2,←h]
  rw[ZZ h]
  unfold Xz
  rw[V5 k k' v L]
  by_cases h2:k'=p.1
  ·rw[Z0 h2,Z0 h2,ZZ (fun e=>h (by rw[←e];exact h2))]
  rw[ZZ h2,ZZ h2]
theorem UA (k:Addr) (v:Value):∀L:List (Addr × Value),∀p∈QC k v L,p.1=k∨∃q∈L,q.1=p.1
 | [],p,h=>by
  unfold QC at h
  rw[List.mem_singleton.1 h]
  exact .inl rfl
 | q::L,p,h=>by
  unfold QC at h
  split at h
  ·rcases ZQ.1 h with rfl|h
   ·exact .inl rfl
   exact .inr ⟨p,by simp[h],rfl⟩
  rcases ZQ.1 h with rfl|h
  ·exact .inr ⟨p,by simp,rfl⟩
  rcases UA k v L p h with h|⟨r,hr,e⟩
  ·exact .inl h
  exact .inr ⟨r,by simp[hr],e⟩
theorem Gg {k:Addr} (v:Value):∀{L:List (Addr × Value)},Xz k L=none→QC k v L=L++[(k,v)]
 | [],_=>rfl
 | p::L,h=>by
  unfold Xz at h
  by_cases hk:k=p.1
  ·rw[Z0 hk] at h;cases h
  rw[ZZ hk] at h
  unfold QC
  rw[ZZ hk,Gg v h]
  rfl
theorem yQ {k:Addr} (v:Value):∀{L:List (Addr × Value)},Xz k L≠none→(QC k v L).map (·.1)=L.map (·.1)
 | [],h=>absurd rfl h
 | p::L,h=>by
  unfold Xz at h
  unfold QC
  by_cases hk:k=p.1
  ·rw[Z0 hk];simp[hk]
  rw[ZZ hk] at h
  rw[ZZ hk,List.map_cons,yQ v h]
  rfl
theorem vr (k:Addr):∀(L:List (Addr × Value)) (i:Nat),(JH k L i).map (·.2)=Xz k L:=by
 intro L
 induction L with
 | nil=>intro i;rfl
 | cons p L ih =>
  intro i
  unfold JH Xz
  by_cases h:k=p.1
  ·rw[Z0 h,Z0 h];rfl
  rw[ZZ h,ZZ h];exact ih (i+1)
theorem qi (k:Addr) (v:Value):∀(L:List (Addr × Value)) (j:Nat),JH k L j=none→QC k v L=L++[(k,v)]:=by
 intro L
 induction L with
 | nil=>intro j _;rfl
 | cons p L ih =>
  intro j h
  unfold JH at h
  by_cases hk:k=p.1
  ·rw[Z0 hk] at h;cases h
  rw[ZZ hk] at h
  unfold QC
  rw[ZZ hk,ih (j+1) h];rfl
theorem qj (k:Addr) (v:Value):∀(L:List (Addr × Value)) (j i:Nat) (u:Value),JH k L j=some (i,u)→∃n,i=j+n∧∃x,L[n]?=some (k,x)∧QC k v L=L.modify n (fun _=>(k,v)):=by
 intro L
 induction L with
 | nil=>intro j i u h;cases h
 | cons p L ih =>
  intro j i u h
  unfold JH at h
  by_cases hk:k=p.1
  ·rw[Z0 hk] at h
   obtain⟨rfl,_⟩:j=i∧_:=by simpa using h
   refine⟨0,rfl,p.2,?_,?_⟩
   ·rw[hk];rfl
   unfold QC;rw[Z0 hk];rfl
  rw[ZZ hk] at h
  obtain⟨n,rfl,x,h1,h2⟩:=ih (j+1) i u h
  refine⟨n+1,oq,x,by simpa using h1,?_⟩
  unfold QC;rw[ZZ hk,h2];rfl
def Ja (w:World) (mb:Nat) (L:List (Addr × Value)):Prop :=
 ∃arr clock,w.heap[mb]?=some (.map arr clock)∧arr.toList.map (fun e=>(e.key,e.val))=L.map (fun p=>(Value.pointer (some p.1),p.2))
theorem Zcv {T K E X:TypeId} {z:Value} (M:XR T K E X z) {w:World} {k:Addr} (hk:K0 w k):∀(es:List MapEntry) (L:List (Addr × Value)) (i:Nat),es.map (fun e=>(e.key,e.val))=L.map (fun p=>(Value.pointer (some p.1),p.2))→(∀p∈L,K0 w p.1) →
  (Instr.findAsking K (.pointer (some k)) es i).run Tryz.prog w=.ok (JH k L i) w:=by
 intro es
 induction es with
 | nil=>intro L i h _;cases L with
  | nil=>rfl
  | cons p L=>simp at h
 | cons e es ih =>
  intro L i h hL
  cases L with
  | nil=>simp at h
  | cons p L =>
   simp only[List.map_cons,List.cons.injEq,Z2] at h
   obtain⟨⟨h1,h2⟩,h3⟩:=h
   have he:=Zcx M hk (hL p (by simp))
   have hi:=ih L (i+1) h3 (fun q hq=>hL q (by simp[hq]))
   unfold JH
   by_cases hkp:k=p.1
   ·rw[Z0 hkp]
    rw[ZY hkp] at he
    simp[Instr.findAsking,h1,he,h2]
   rw[ZZ hkp]
   rw[ZX hkp] at he
   simp[Instr.findAsking,h1,he,hi]
theorem ZaX {T K E X:TypeId} {z:Value} (M:XR T K E X z) {w:World} {k:Addr} (hk:K0 w k) (es:List MapEntry) (L:List (Addr × Value)) (h:es.map (fun e=>(e.key,e.val))=L.map (fun p=>(Value.pointer (some p.1),p.2))) (hL:∀p∈L,K0 w p.1) :
  (Instr.findKey K (.pointer (some k)) es).run Tryz.prog w=.ok (JH k L 0) w:=by
 have hu:(underlying K).run Tryz.prog w=.ok (.pointer X) w:=by rw[run_underlying M.key]
 unfold Instr.findKey
 simp only[Sem.run_bind,hu,ZO]
 have ha:=Zcv M hk es L 0 h hL
 cases es with
 | nil=>cases L with
  | nil=>rfl
  | cons p L=>simp at h
 | cons e es =>
  have:Instr.findNow (.pointer X) (.pointer (some k)) (e::es) 0=none:=by unfold Instr.findNow Instr.sameNow;rfl
  rw[this]
  exact ha
theorem vG {T K E X:TypeId} {z:Value} (M:XR T K E X z) {w:World} {mb:Nat} {L:List (Addr × Value)} (h:Ja w mb L) (hL:∀p∈L,K0 w p.1) {k:Addr} (hk:K0 w k) (c:Bool) :
  (Instr.lookup T (.map (some mb)) (.pointer (some k)) c).run Tryz.prog w=.ok (if c then .tuple #[(Xz k L).getD z,.bool (Xz k L).isSome] else (Xz k L).getD z) w:=by
 obtain⟨arr,clock,hh,he⟩:=h
 have hu:(underlying T).run Tryz.prog w=.ok (.map K E) w:=by rw[run_underlying M.map]
 have hg:(getObj mb).run Tryz.prog w=.ok (.map arr clock) w:=run_getObj_map (w:=w) mb arr clock hh
 have hc:=M.check arr.isEmpty (some k) w
 have hfin:=vr k L 0
 have hfk:=ZaX M hk arr.toList L he hL
 simp only[Instr.lookup,Sem.run_bind,hu,ZO,hg,Sem.run_pure]
 rw[hc]
 simp only[ZO]
 rw[hfk]
 simp only[ZO]
 rw[←hfin]
 cases hr:JH k L 0 with
 | none=>simp only[Sem.run_bind,M.zero,ZO,Sem.run_pure];cases c<;>rfl
 | some p=>obtain⟨i,v⟩:=p;simp only[Sem.run_bind,ZO,Sem.run_pure];cases c<;>rfl
theorem kO {T K E X:TypeId} {z:Value} (M:XR T K E X z) {w:World} {mb:Nat} {L:List (Addr × Value)} (h:Ja w mb L) (hL:∀p∈L,K0 w p.1) {k:Addr} (hk:K0 w k) (v:Value) :
  ∃arr clock n,(Instr.mapUpdate T (.map (some mb)) (.pointer (some k)) v).run Tryz.prog w=.ok () (World.putM (w.drewN n) mb (.map arr clock))∧Ja (World.putM (w.drewN n) mb (.map arr clock)) mb (QC k v L):=by
 obtain⟨arr,clock,hh,he⟩:=h
 have hu:(underlying T).run Tryz.prog w=.ok (.map K E) w:=by rw[run_underlying M.map]
 have hg:(getObj mb).run Tryz.prog w=.ok (.map arr clock) w:=run_getObj_map (w:=w) mb arr clock hh
 have hc:=M.check false (some k) w
 have hfk:=ZaX M hk arr.toList L he hL
 have hlt:=Zb hh
 have hnew:∀(m:Nat) o,(World.putM (w.drewN m) mb o).heap[mb]?=some o:=by
  intro m o
  show(w.heap.setIfInBounds mb o)[mb]?=some o
  rw[Array.getElem?_setIfInBounds_self_of_lt hlt]
 cases hr:JH k L 0 with
 | none =>
  refine⟨arr.push { key:=.pointer (some k),val:=v,born:=clock },clock+1,0,?_,⟨_,_,hnew _ _,?_⟩⟩
  ·simp only[Instr.mapUpdate,Sem.run_bind,hu,ZO,hg]
   rw[hc]
   simp only[ZO]
   rw[hfk,hr]
   simp only[ZO]
   exact Go.MapKept.run_setObj_map (w:=w) _ hh
  rw[qi k v L 0 hr]
  simp[he]
 | some q =>
  obtain⟨i,u⟩:=q
  obtain⟨n,hn,x,h1,h2⟩:=qj k v L 0 i u hr
  obtain rfl:i=n:=oq
  have hkey:((arr[i]?).map (·.key)).getD (.pointer (some k))=.pointer (some k):=by
   have:=Z1 (fun l=>l[i]?) he
   simp only[List.getElem?_map,h1,Option.map_some] at this
   cases ha:arr[i]? with
   | none=>rfl
   | some e=>simp[ha] at this ⊢;exact this.1
  obtain⟨kk,m,hst,hkk⟩:=Ek (P:=Tryz.prog) (.pointer (some k)) (.pointer (some k)) w
  obtain rfl:kk=.pointer (some k):=by rcases hkk with h|h<;>exact h
  refine⟨arr.modify i fun e=>{ e with key:=.pointer (some k),val:=v },clock,m,?_,⟨_,_,hnew _ _,?_⟩⟩
  ·simp only[Instr.mapUpdate,Sem.run_bind,hu,ZO,hg]
   rw[hc]
   simp only[ZO]
   rw[hfk,hr]
   simp only[ZO,Sem.run_bind,hkey]
   rw[hst]
   simp only[ZO]
   exact Go.MapKept.run_setObj_map (w:=w.drewN m) _ hh
  rw[h2,Array.toList_modify]
  apply List.ext_getElem?
  intro j
  have hj:=Z1 (fun l=>l[j]?) he
  simp only[List.getElem?_map,List.getElem?_modify] at hj ⊢
  by_cases hij:i=j
  ·subst hij
   rw[h1] at hj ⊢
   cases ha:arr.toList[i]? with
   | none=>rw[ha] at hj;simp at hj
   | some e=>simp
  simp only[hij,if_false]
  cases ha:arr.toList[j]?<;>cases hb:L[j]?<;>rw[ha,hb] at hj<;>simp at hj ⊢
  exact hj
theorem Ja.keep {w w':World} {mb:Nat} {L:List (Addr × Value)} (h:Ja w mb L) (e:w'.heap[mb]?=w.heap[mb]?):Ja w' mb L:=by
 obtain⟨arr,clock,h1,h2⟩:=h
 exact⟨arr,clock,e.trans h1,h2⟩
theorem Ja.lt {w:World} {mb:Nat} {L:List (Addr × Value)} (h:Ja w mb L):mb<w.heap.size:=by
 obtain⟨arr,clock,h1,h2⟩:=h
 exact Zb h1
theorem Ja.new (w:World):Ja (w.alloc (.map #[] 0)) w.heap.size []:=⟨#[],0,Yt w _,rfl⟩
theorem JE {T K E X:TypeId} {z:Value} (M:XR T K E X z) (w:World) {ops:Array Oper} {rest:List Oper} {o:Oper} {a:Act} {Q:Exit→Act→World→Prop}
  (hg:o.guard=none) (m x:Operand) (c:Bool) (hop:o.op=Op.lookup T m x c) (mb:Nat) (L:List (Addr × Value)) (k:Addr)
  (hm:a.eval m=.map (some mb)) (hx:a.eval x=.pointer (some k)) (h:Ja w mb L) (hL:∀p∈L,K0 w p.1) (hk:K0 w k) (u:Value) (hu:(if c then .tuple #[(Xz k L).getD z,.bool (Xz k L).isSome] else (Xz k L).getD z)=u)
  (hK:wpList Tryz.prog ops Q rest (a.put o.dst u) w) :
  wpList Tryz.prog ops Q (o::rest) a w:=by
 refine wpList_plain hg fun K' hK'=>?_
 have hrun:=vG M h hL hk c
 have e:(execOp a.eval o).run Tryz.prog w=.ok (.value u) w:=by
  rw[←hu]
  simp[execOp,hop,hm,hx,hrun]
 unfold Oper.wp
 rw[e]
 exact hK' _ _ hK
theorem UV {T K E X:TypeId} {z:Value} (M:XR T K E X z) (w:World) {ops:Array Oper} {rest:List Oper} {o:Oper} {a:Act} {Q:Exit→Act→World→Prop}
  (hg:o.guard=none) (m x v:Operand) (hop:o.op=Op.mapUpdate T m x v) (mb:Nat) (L:List (Addr × Value)) (k:Addr) (u:Value)
  (hm:a.eval m=.map (some mb)) (hx:a.eval x=.pointer (some k)) (hv:a.eval v=u) (h:Ja w mb L) (hL:∀p∈L,K0 w p.1) (hk:K0 w k)
  (hK:∀w',Upon mb w w'→w'.heap.size=w.heap.size→Ja w' mb (QC k u L)→wpList Tryz.prog ops Q rest (a.put o.dst undef) w') :
  wpList Tryz.prog ops Q (o::rest) a w:=by
 refine wpList_plain hg fun K' hK'=>?_
 obtain⟨arr,clock,n,hrun,h1⟩:=kO M h hL hk u
 unfold Oper.wp
 simp[execOp,hop,hm,hx,hv,hrun,Result.andThen]
 exact hK' _ _ (hK _ (YI ((Upon.refl _ _).drewN n) _) (by simp[World.putM]) h1)
theorem Jo:XR 247 251 2 92 (.int .i64 0):=⟨by kernel_rfl,by kernel_rfl,fun w=>⟨5,by kernel_rfl⟩,fun w=>by kernel_rfl,fun b s w=>by cases b<;>kernel_rfl⟩
theorem EC:Xs 263 9 2 (.int .i64 0):=⟨by kernel_rfl,by kernel_rfl,fun w=>by kernel_rfl,fun b s w=>by cases b<;>kernel_rfl⟩
structure RkM (w:World) (rb tb ma mq:Nat) (La:List (ByteArray × Value)) (L:List (Addr × Value)):Prop where
 box:w.heap[rb]?=some (.cells #[.func (.func 163) #[] #[.pointer (some ⟨tb,0,none⟩)],.map (some mq)] 249 (0,0))
 tb:w.heap[tb]?=some (.cells #[.map (some ma)] 263 (0,0))
 args:YJ w ma La
 vals:Ja w mq L
 ks:∀p∈L,K0 w p.1
def TV (La:List (ByteArray × Value)) (T:ByteArray→Int):Prop:=∀nm,(YT nm La).getD (.int .i64 0)=.int .i64 (T nm)
theorem jp {w:World} {b:Nat} {v0:Value} {t:TypeId} (h:w.heap[b]?=some (.cells #[v0] t (0,0))):w.cell? ⟨b,0,none⟩=some v0:=by simp[World.cell?,h]
theorem xi {w:World} {tb ma:Nat} {La:List (ByteArray × Value)} {T:ByteArray→Int} (h1:w.heap[tb]?=some (.cells #[.map (some ma)] 263 (0,0))) (h2:YJ w ma La) (hT:TV La T) (nm:ByteArray) :
  Calls Tryz.prog 163 #[.string nm,.pointer (some ⟨tb,0,none⟩)] w fun x w'=>x=.returned (.int .i64 (T nm))∧w'=w:=by
 have c0:=jp h1
 have HM:=hid h2
 have HT:=hid (hT nm)
 clear h1 h2 hT
 go_enter Tryz.func163,Tryz.ntmps163
 go_wp2_with (at_lookup;refine Qi EC _ rfl _ _ rfl ma La nm _ rfl rfl HM.out HT.out ?_)
 go_ret
 exact⟨rfl,rfl⟩
theorem At.cells {w:World} {x:Addr} {e:PE} (h:At w x e):∃b o ad cap,x=⟨b,o,none⟩∧w.cell? ⟨b,o,none⟩=some (.int .i64 e.k)∧w.cell? ⟨b,o+1,none⟩=some (.string e.nm)∧w.cell? ⟨b,o+2,none⟩=some (.int .i64 e.n)∧w.cell? ⟨b,o+4,none⟩=some (.slice ad e.args.len cap):=by
 obtain⟨b,o,ad,cap,h0,_,h1,h2,h3,_,_,h4,_⟩:=h
 exact⟨b,o,ad,cap,h0,h1,h2,h3,h4⟩
theorem At.keep {w w':World} {x:Addr} {e:PE} (h:At w x e) (hs:Same (fun _=>True) w w'):At w' x e:=by
 obtain⟨b,o,ad,cap,h0,⟨cs,t,h1⟩,h2,h3,h4,h5,h6,h7,h8,h9⟩:=h
 have hb:=hs.block b trivial (Zb h1)
 have hc:∀o,w'.cell? ⟨b,o,none⟩=w.cell? ⟨b,o,none⟩:=fun o=>Zn (w:=w) (a:=⟨b,o,none⟩) hb
 exact⟨b,o,ad,cap,h0,⟨cs,t,hb.trans h1⟩,(hc _).trans h2,(hc _).trans h3,(hc _).trans h4,(hc _).trans h5,(hc _).trans h6,(hc _).trans h7,h8,h9.keep hs⟩
theorem At.drewN {w:World} {x:Addr} {e:PE} (h:At w x e) (n:Nat):At (w.drewN n) x e:=h.keep ((Same.refl _ _).drewN n)
theorem At.k0 {w:World} {x:Addr} {e:PE} (h:At w x e):K0 w x:=by
 obtain⟨b,o,ad,cap,h0,⟨cs,t,h1⟩,_⟩:=h
 exact⟨b,o,cs,t,h0,h1⟩
theorem Gp {w:World} {rb tb ma mq:Nat} {La:List (ByteArray × Value)} {L:List (Addr × Value)} {T:ByteArray→Int} (hr:RkM w rb tb ma mq La L) (hT:TV La T) {x:Addr} {e:PE} (he:At w x e) :
  Calls Tryz.prog 181 #[.pointer (some ⟨rb,0,none⟩),.pointer (some x)] w fun y w'=>y=.returned (.int .i64 (sgE T e.k e.nm e.n))∧∃m,w'=w.drewN m:=by
 obtain⟨b,o,ad,cap,rfl,c0,c1,c2,_⟩:=he.cells
 have q0:w.cell? ⟨rb,0,none⟩=some (.func (.func 163) #[] #[.pointer (some ⟨tb,0,none⟩)]):=by simp[World.cell?,hr.box]
 have HTO:=hid (fun m nm=>xi (w:=w.drewN m) hr.tb hr.args hT nm)
 obtain⟨ans,hans⟩:∃ans,sgE T e.k e.nm e.n=ans:=⟨_,rfl⟩
 rw[hans]
 obtain⟨k,hk⟩:∃k,e.k=k:=⟨_,rfl⟩
 obtain⟨nm,hnm⟩:∃nm,e.nm=nm:=⟨_,rfl⟩
 obtain⟨n,hn⟩:∃n,e.n=n:=⟨_,rfl⟩
 rw[hk] at c0 hans
 rw[hnm] at c1 hans
 rw[hn] at c2 hans
 unfold sgE at hans
 clear hr hT he hk hnm hn
 by_cases h11:k=11
 ·rw[Z0 h11] at hans
  subst hans
  subst h11
  go_enter Tryz.func181,Tryz.ntmps181
  go_wp2
  go_region_with (go_at_call 163;refine(HTO.out _ _).mono ?_;rintro y w2 ⟨rfl,rfl⟩)
  all_goals go_wp2
  all_goals (go_ret;exact⟨rfl,_,rfl⟩)
 rw[ZZ h11] at hans
 have e11:(k == 11)=false:=ZW.2 h11
 by_cases h12:k=12
 ·rw[Z0 h12] at hans
  subst hans
  subst h12
  go_enter Tryz.func181,Tryz.ntmps181
  go_wp2
  go_ret
  exact⟨rfl,0,rfl⟩
 rw[ZZ h12] at hans
 have e12:(k == 12)=false:=ZW.2 h12
 subst hans
 go_enter Tryz.func181,Tryz.ntmps181
 go_wp2
 go_ret
 exact⟨rfl,0,rfl⟩
def Qa (T:ByteArray→Int) (L:List (Addr × Value)) (l:PL) (b o i:Nat):Value × Option Addr:=match l.at i with
 | none=>(.int .i64 0,none)
 | some e=>if e.k=13 then (match Xz ⟨b,o+i*6,none⟩ L with
   | some v=>(v,none)
   | none=>(.int .i64 0,some ⟨b,o+i*6,none⟩))
  else (.int .i64 (sgE T e.k e.nm e.n),none)
theorem PL.at_none:∀(l:PL) (i:Nat),l.len≤i→l.at i=none
 | .nil,_,_=>rfl
 | .cons _ _ _ _ _ _ tl,0,h=>by simp[PL.len] at h
 | .cons _ _ _ _ _ _ tl,i+1,h=>PL.at_none tl i (by simp only[PL.len] at h;omega)
theorem RkM.drewN {w:World} {rb tb ma mq:Nat} {La:List (ByteArray × Value)} {L:List (Addr × Value)} (h:RkM w rb tb ma mq La L) (n:Nat):RkM (w.drewN n) rb tb ma mq La L:=⟨h.box,h.tb,h.args,h.vals,h.ks⟩
theorem ED {w:World} {rb tb ma mq:Nat} {La:List (ByteArray × Value)} {L:List (Addr × Value)} {T:ByteArray→Int} (hr:RkM w rb tb ma mq La L) (hT:TV La T) {bx ox:Nat} {e:PE} (he:At w ⟨bx,ox,none⟩ e) (hl:e.args.len≤1000) (i:Nat) (hi:i≤2) (b o:Nat)
  (hbo:∀ad cap,w.cell? ⟨bx,ox+4,none⟩=some (.slice ad e.args.len cap)→e.args.len=0∨ad=some ⟨b,o,none⟩) :
  Calls Tryz.prog 182 #[.pointer (some ⟨rb,0,none⟩),.pointer (some ⟨bx,ox,none⟩),.int .i64 (i:Int)] w fun y w'=>y=.returned (.tuple #[(Qa T L e.args b o i).1,.pointer (Qa T L e.args b o i).2])∧∃m,w'=w.drewN m:=by
 obtain⟨b',o',ad,cap,hx,c0,c1,c2,c4⟩:=he.cells
 injection hx with hx1 hx2
 subst hx1;subst hx2
 have hbo2:=hbo ad cap c4
 by_cases hil:i<e.args.len
 ·obtain⟨b2,o2,cap2,d4,e',he',hat⟩:=he.arg hil
  rw[show(⟨bx,ox,none⟩:Addr).block=bx from rfl,show(⟨bx,ox,none⟩:Addr).off=ox from rfl,c4] at d4
  injection d4 with d4
  injection d4 with d4 _ d5
  subst d4
  subst d5
  rcases hbo2 with h|h
  ·omega
  injection h with h
  injection h with h h'
  subst h;subst h'
  obtain⟨b3,o3,ad3,cap3,hx,f0,f1,f2,f4⟩:=hat.cells
  injection hx with hx1 hx2
  subst hx1;subst hx2
  have HSI:=hid (fun m=>Gp (w:=w.drewN m) (hr.drewN m) hT (x:=⟨b2,o2+i*6,none⟩) (e:=e') (hat.drewN m))
  have q1:w.cell? ⟨rb,1,none⟩=some (.map (some mq)):=by simp[World.cell?,hr.box]
  have HV:=hid hr.vals
  have HKS:=hid hr.ks
  have HK0:=hid hat.k0
  have hans:Qa T L e.args b2 o2 i=if e'.k=13 then (match Xz ⟨b2,o2+i*6,none⟩ L with
    | some v=>(v,none)
    | none=>(.int .i64 0,some ⟨b2,o2+i*6,none⟩)) else (.int .i64 (sgE T e'.k e'.nm e'.n),none):=by unfold Qa;rw[he']
  obtain⟨ans,ha⟩:∃ans,Qa T L e.args b2 o2 i=ans:=⟨_,rfl⟩
  rw[ha] at hans ⊢
  have i0:(0:Int)≤(i:Int):=oq
  have i1:(i:Int)<(e.args.len:Int):=oq
  have i2:¬(i:Int)≥(e.args.len:Int):=oq
  obtain⟨k',hk'⟩:∃k',e'.k=k':=⟨_,rfl⟩
  rw[hk'] at f0 hans HSI
  obtain⟨ln,hln⟩:∃ln,e.args.len=ln:=⟨_,rfl⟩
  rw[hln] at c4 i1 i2 hl
  clear hr hT he hbo ha he' hat c0 c1 c2 f1 f2 f4 hk' hln hil
  by_cases h13:k'=13
  ·rw[Z0 h13] at hans
   subst h13
   cases hg:Xz ⟨b2,o2+i*6,none⟩ L with
   | some v =>
    rw[hg] at hans
    subst hans
    have HG:=hid (show Value.tuple #[(Xz ⟨b2,o2+i*6,none⟩ L).getD (.int .i64 0),.bool (Xz ⟨b2,o2+i*6,none⟩ L).isSome]=.tuple #[v,.bool true] by rw[hg];rfl)
    clear hg
    go_enter Tryz.func182,Tryz.ntmps182
    go_wp2_with (at_lookup;refine JE Jo _ rfl _ _ true rfl mq L ⟨b2,o2+i*6,none⟩ rfl rfl HV.out HKS.out HK0.out _ HG.out ?_)
    go_ret2
    exact⟨rfl,0,rfl⟩
   | none =>
    rw[hg] at hans
    subst hans
    have HG:=hid (show Value.tuple #[(Xz ⟨b2,o2+i*6,none⟩ L).getD (.int .i64 0),.bool (Xz ⟨b2,o2+i*6,none⟩ L).isSome]=.tuple #[.int .i64 0,.bool false] by rw[hg];rfl)
    clear hg
    go_enter Tryz.func182,Tryz.ntmps182
    go_wp2_with (at_lookup;refine JE Jo _ rfl _ _ true rfl mq L ⟨b2,o2+i*6,none⟩ rfl rfl HV.out HKS.out HK0.out _ HG.out ?_)
    go_ret2
    exact⟨rfl,0,rfl⟩
  rw[ZZ h13] at hans
  subst hans
  have e13:(k' != 13)=true:=bne_iff_ne.2 h13
  go_enter Tryz.func182,Tryz.ntmps182
  go_wp2_with (go_at_call 181;refine(HSI.out 0).mono ?_;rintro y w2 ⟨rfl,m2,rfl⟩)
  go_ret2
  exact⟨rfl,_,rfl⟩
 have hans:Qa T L e.args b o i=(.int .i64 0,none):=by unfold Qa;rw[PL.at_none _ _ oq]
 rw[hans]
 have i2:(i:Int)≥(e.args.len:Int):=oq
 clear hr hT he hbo hbo2 hans hil
 go_enter Tryz.func182,Tryz.ntmps182
 go_wp2
 go_ret2
 exact⟨rfl,0,rfl⟩
structure Za5 (T:ByteArray→Int) (e:PE) (i:Nat) (r:Value × Option Addr):Prop where
 val:r.2=none→r.1=.int .i64 (evA T e.args i)
 mis:∀a,r.2=some a→r.1=.int .i64 0
def rkV (T:ByteArray→Int) (e:PE) (r:Nat→Value × Option Addr):Value × Option Addr :=
 if e.k=13 then
  (if (r 0).2≠none then (.int .i64 0,(r 0).2)
  else if e.nm.toList=[63] then (if evA T e.args 0≠0 then r 1 else r 2)
  else if (r 1).2≠none then (.int .i64 0,(r 1).2) else (.int .i64 (evE T e),none))
 else (.int .i64 (sgE T e.k e.nm e.n),none)
def Zcd (T:ByteArray→Int) (l:PL):Prop:=∀i,-9223372036854775808≤evA T l i∧evA T l i≤9223372036854775807
theorem qK {w:World} {rb tb ma mq:Nat} {La:List (ByteArray × Value)} {L:List (Addr × Value)} {T:ByteArray→Int} (hr:RkM w rb tb ma mq La L) (hT:TV La T) {bx ox:Nat} {e:PE} (he:At w ⟨bx,ox,none⟩ e) (hl:e.args.len≤1000) (h64:Zcd T e.args) (b o:Nat)
  (hbo:∀ad cap,w.cell? ⟨bx,ox+4,none⟩=some (.slice ad e.args.len cap)→e.args.len=0∨ad=some ⟨b,o,none⟩) (hq:∀i,Za5 T e i (Qa T L e.args b o i)) :
  Calls Tryz.prog 164 #[.pointer (some ⟨rb,0,none⟩),.pointer (some ⟨bx,ox,none⟩)] w fun y w'=>y=.returned (.tuple #[(rkV T e (Qa T L e.args b o)).1,.pointer (rkV T e (Qa T L e.args b o)).2])∧∃m,w'=w.drewN m:=by
 obtain⟨b',o',ad,cap,hx,c0,c1,c2,c4⟩:=he.cells
 injection hx with hx1 hx2
 subst hx1;subst hx2
 have HAR:=hid (fun(m i:Nat) (hi:i≤2)=>ED (w:=w.drewN m) (hr.drewN m) hT (he.drewN m) hl i hi b o hbo)
 have HSI:=hid (fun m=>Gp (w:=w.drewN m) (hr.drewN m) hT (x:=⟨bx,ox,none⟩) (e:=e) (he.drewN m))
 obtain⟨r,hrr⟩:∃r,Qa T L e.args b o=r:=⟨_,rfl⟩
 rw[hrr] at HAR hq ⊢
 obtain⟨k,hk⟩:∃k,e.k=k:=⟨_,rfl⟩
 obtain⟨nm,hnm⟩:∃nm,e.nm=nm:=⟨_,rfl⟩
 obtain⟨ans,hans⟩:∃ans,rkV T e r=ans:=⟨_,rfl⟩
 rw[hans]
 unfold rkV at hans
 rw[hk] at c0 hans
 have HEV:=hid (show k=13→evE T e=opE nm (evA T e.args 0) (evA T e.args 1) (evA T e.args 2) from fun h=>by unfold evE;rw[hk,Z0 h,hnm])
 rw[hk,hnm] at HSI
 rw[hnm] at c1 hans
 have q0:=hq 0
 have q1:=hq 1
 have H0:=hid (fun m=>HAR.out m 0 oq)
 have H1:=hid (fun m=>HAR.out m 1 oq)
 have H2:=hid (fun m=>HAR.out m 2 oq)
 rw[show((0:Nat):Int)=0 from rfl] at H0
 rw[show((1:Nat):Int)=1 from rfl] at H1
 rw[show((2:Nat):Int)=2 from rfl] at H2
 have HOP:=hid (fun m=>body.ZbB nm (evA T e.args 0) (evA T e.args 1) (w.drewN m) (h64 0).1 (h64 0).2 (h64 1).1 (h64 1).2)
 obtain⟨x0,hx0⟩:∃x0,evA T e.args 0=x0:=⟨_,rfl⟩
 obtain⟨x1,hx1⟩:∃x1,evA T e.args 1=x1:=⟨_,rfl⟩
 have hv0:=q0.val
 have hv1:=q1.val
 rw[hx0] at hans HOP hv0
 rw[hx1] at HOP hv1
 have HEV2:=hid (show k=13→evE T e=opE nm x0 x1 (evA T e.args 2) from fun h=>by rw[HEV.out h,hx0,hx1])
 obtain⟨ev,hev⟩:∃ev,evE T e=ev:=⟨_,rfl⟩
 rw[hev] at hans HEV2
 clear hr hT he hl h64 hbo hq HAR hrr hk hnm q0 q1 hx0 hx1 HEV hev
 by_cases h13:k=13
 ·have hE:=HEV2.out h13
  rw[Z0 h13] at hans
  subst h13
  cases h0:r 0 with
  | mk v0 a0 =>
   rw[h0] at H0 hans hv0
   simp only at H0 hans hv0
   cases a0 with
   | some a =>
    rw[Z0 (by simp)] at hans
    subst hans
    clear H1 H2 HOP hv0 hv1 hE HEV2 h0
    go_enter Tryz.func164,Tryz.ntmps164
    go_wp2_with (go_at_call 182;refine(H0.out 0).mono ?_;rintro y w2 ⟨rfl,m2,rfl⟩)
    go_ret2
    exact⟨rfl,_,rfl⟩
   | none =>
    rw[ZZ (by simp)] at hans
    have hvv:=hv0 rfl
    subst hvv
    by_cases hq:nm.toList=[63]
    ·rw[Z0 hq] at hans
     obtain rfl:=body.Q7 hq
     by_cases hz:x0=0
     ·rw[ZZ (by simp[hz])] at hans
      subst hz
      cases h2:r 2 with
      | mk v2 a2 =>
       rw[h2] at H2 hans
       subst hans
       simp only at H2
       clear H1 HOP hv0 hv1 hE HEV2 h0 h2 hq
       go_enter Tryz.func164,Tryz.ntmps164
       go_wp2_with (first|(go_at_call 182;refine(H0.out 0).mono ?_;rintro y w2 ⟨rfl,m2,rfl⟩;clear H0)|(go_at_call 182;refine(H2.out _).mono ?_;rintro y w3 ⟨rfl,m3,rfl⟩))
       go_ret2
       exact⟨rfl,_,rfl⟩
     rw[Z0 hz] at hans
     have hz1:(x0 != 0)=true:=bne_iff_ne.2 hz
     cases h1:r 1 with
     | mk v1 a1 =>
      rw[h1] at H1 hans
      subst hans
      simp only at H1
      clear H2 HOP hv0 hv1 hE HEV2 h0 h1 hq
      go_enter Tryz.func164,Tryz.ntmps164
      go_wp2_with (first|(go_at_call 182;refine(H0.out 0).mono ?_;rintro y w2 ⟨rfl,m2,rfl⟩;clear H0)|(go_at_call 182;refine(H1.out _).mono ?_;rintro y w3 ⟨rfl,m3,rfl⟩))
      go_ret2
      exact⟨rfl,_,rfl⟩
    rw[ZZ hq] at hans
    have hq1:(nm.toList == [63])=false:=by simpa using hq
    cases h1:r 1 with
    | mk v1 a1 =>
     rw[h1] at H1 hans hv1
     simp only at H1 hans hv1
     cases a1 with
     | some a =>
      rw[Z0 (by simp)] at hans
      subst hans
      clear H2 HOP hv0 hv1 hE HEV2 h0 h1
      go_enter Tryz.func164,Tryz.ntmps164
      go_wp2_with (first|(go_at_call 182;refine(H0.out 0).mono ?_;rintro y w2 ⟨rfl,m2,rfl⟩;clear H0)|(go_at_call 182;refine(H1.out _).mono ?_;rintro y w3 ⟨rfl,m3,rfl⟩))
      go_ret2
      exact⟨rfl,_,rfl⟩
     | none =>
      rw[ZZ (by simp)] at hans
      have hvv:=hv1 rfl
      subst hvv
      have hE2:ev=body.opP nm.toList x0 x1:=by rw[hE];unfold opE;rw[ZZ hq]
      rw[←hE2] at HOP
      subst hans
      clear H2 hv0 hv1 hE HEV2 h0 h1 hE2
      go_enter Tryz.func164,Tryz.ntmps164
      go_wp2_with (first|(go_at_call 182;refine(H0.out 0).mono ?_;rintro y w2 ⟨rfl,m2,rfl⟩;clear H0)|(go_at_call 182;refine(H1.out _).mono ?_;rintro y w3 ⟨rfl,m3,rfl⟩)|(go_at_call 183;refine(HOP.out _).mono ?_;rintro y w4 ⟨rfl,m4,rfl⟩))
      go_ret2
      exact⟨rfl,_,rfl⟩
 rw[ZZ h13] at hans
 subst hans
 have e13:(k != 13)=true:=bne_iff_ne.2 h13
 clear H0 H1 H2 HOP hv0 hv1 HEV2
 go_enter Tryz.func164,Tryz.ntmps164
 go_wp2_with (go_at_call 181;refine(HSI.out 0).mono ?_;rintro y w2 ⟨rfl,m2,rfl⟩)
 go_ret2
 exact⟨rfl,_,rfl⟩
def JL (w:World):PL→Nat→Nat→List Addr
 | .nil,_,_=>[]
 | .cons _ _ _ _ args _ tl,b,o=>⟨b,o,none⟩::((match w.cell? ⟨b,o+4,none⟩ with
  | some (.slice (some x) _ _)=>JL w args x.block x.off
  | _=>[])++JL w tl b (o+6))
theorem qz (w:World):∀(l:PL) (b o i:Nat),i<l.len→(⟨b,o+i*6,none⟩:Addr)∈JL w l b o
 | .nil,_,_,_,h=>absurd h (Yi _)
 | .cons _ _ _ _ args _ tl,b,o,0,_=>by unfold JL;simp
 | .cons _ _ _ _ args _ tl,b,o,i+1,h=>by
  have:=qz w tl b (o+6) i (by simp only[PL.len] at h;omega)
  unfold JL
  rw[show o+(i+1)*6=o+6+i*6 by omega]
  simp[this]
def Clo (w:World) (occ:List Addr) (x:Addr):Prop:=∃e,At w x e∧∀b o cap,w.cell? ⟨x.block,x.off+4,none⟩=some (.slice (some ⟨b,o,none⟩) e.args.len cap)→∀i,i<e.args.len→(⟨b,o+i*6,none⟩:Addr)∈occ
theorem Clo.mono {w:World} {occ occ':List Addr} {x:Addr} (h:Clo w occ x) (hs:∀y∈occ,y∈occ'):Clo w occ' x:=by
 obtain⟨e,h1,h2⟩:=h
 exact⟨e,h1,fun b o cap hc i hi=>hs _ (h2 b o cap hc i hi)⟩
theorem qA {w:World}:∀(l:PL) (b o:Nat),(∃cs t,w.heap[b]?=some (.cells cs t (0,0)))→X1 w (fun _=>True) b l o→∀x∈JL w l b o,Clo w (JL w l b o) x:=by
 intro l
 induction l with
 | nil=>intro b o _ _ x hx;cases hx
 | cons k nm n d args a tl ih1 ih2 =>
  intro b o hb h x hx
  have hat:=Gr (.cons k nm n d args a tl) b o 0 ⟨k,nm,n,d,args,a⟩ hb h rfl
  obtain⟨h0,h1,h2,h3,h5,⟨ad,cap,h4,hcap,hd⟩,ht⟩:=h
  have hocc:JL w (.cons k nm n d args a tl) b o=⟨b,o,none⟩::((match ad with|some x=>JL w args x.block x.off|none=>[])++JL w tl b (o+6)):=by
   conv=>lhs;unfold JL
   rw[h4]
   cases ad<;>rfl
  rw[hocc] at hx ⊢
  rcases ZQ.1 hx with rfl|hx
  ·refine⟨⟨k,nm,n,d,args,a⟩,by simpa using hat,fun b' o' cap' hc i hi=>?_⟩
   rw[h4] at hc
   simp only[Option.some.injEq,Value.slice.injEq] at hc
   obtain⟨rfl,_,_⟩:=hc
   have:=qz w args b' o' i hi
   simp[this]
  rcases List.mem_append.1 hx with hx|hx
  ·cases ad with
   | none=>cases hx
   | some y =>
    rcases hd with rfl|⟨b',o',e,⟨_,cs,hcs⟩,hd⟩
    ·cases hx
    injection e with e
    subst e
    exact(ih1 b' o' ⟨cs,_,hcs⟩ hd x hx).mono (fun z hz=>by
     have hz':z∈JL w args b' o':=hz
     simp[hz'])
  exact(ih2 b (o+6) hb ht x hx).mono (fun z hz=>by simp[hz])
theorem Zai {w:World} {R:PE→Prop} (hR:∀e i f,R e→e.args.at i=some f→R f):∀(l:PL) (b o:Nat),(∃cs t,w.heap[b]?=some (.cells cs t (0,0)))→X1 w (fun _=>True) b l o→(∀i f,l.at i=some f→R f)→∀x∈JL w l b o,∃e,At w x e∧R e:=by
 intro l
 induction l with
 | nil=>intro b o _ _ _ x hx;cases hx
 | cons k nm n d args a tl ih1 ih2 =>
  intro b o hb h hl x hx
  have hat:=Gr (.cons k nm n d args a tl) b o 0 ⟨k,nm,n,d,args,a⟩ hb h rfl
  have h1:=hl 0 ⟨k,nm,n,d,args,a⟩ rfl
  obtain⟨_,_,_,_,_,⟨ad,cap,h4,_,hd⟩,ht⟩:=h
  have hocc:JL w (.cons k nm n d args a tl) b o=⟨b,o,none⟩::((match ad with|some x=>JL w args x.block x.off|none=>[])++JL w tl b (o+6)):=by
   conv=>lhs;unfold JL
   rw[h4]
   cases ad<;>rfl
  rw[hocc] at hx
  rcases ZQ.1 hx with rfl|hx
  ·exact⟨_,by simpa using hat,h1⟩
  rcases List.mem_append.1 hx with hx|hx
  ·cases ad with
   | none=>cases hx
   | some y =>
    rcases hd with rfl|⟨b',o',e,⟨_,cs,hcs⟩,hd⟩
    ·cases hx
    injection e with e
    subst e
    exact ih1 b' o' ⟨cs,_,hcs⟩ hd (fun i f hf=>hR _ i f h1 hf) x hx
  exact ih2 b (o+6) hb ht (fun i f hf=>hl (i+1) f hf) x hx
theorem Zby {w:World} {x0:Addr} {e0:PE} (h:At w x0 e0):∃occ:List Addr,x0∈occ∧(∀x∈occ,Clo w occ x)∧∀R:PE→Prop,(∀e i f,R e→e.args.at i=some f→R f)→R e0→∀x∈occ,∃e,At w x e∧R e:=by
 obtain⟨b,o,ad,cap,rfl,hb,h0,h1,h2,h3,h5,h4,hcap,hs⟩:=h
 have hat:At w ⟨b,o,none⟩ e0:=⟨b,o,ad,cap,rfl,hb,h0,h1,h2,h3,h5,h4,hcap,hs⟩
 rcases hs with hs|⟨b',o',rfl,⟨_,cs,hcs⟩,hc⟩
 ·refine⟨[⟨b,o,none⟩],by simp,fun x hx=>?_,fun R _ h0 x hx=>⟨e0,by rw[List.mem_singleton.1 hx];exact hat,h0⟩⟩
  rw[List.mem_singleton.1 hx]
  exact⟨e0,hat,fun b' o' cap' _ i hi=>by rw[hs] at hi;exact absurd hi (Yi _)⟩
 refine⟨⟨b,o,none⟩::JL w e0.args b' o',by simp,fun x hx=>?_,fun R hR h0 x hx=>by
  rcases ZQ.1 hx with rfl|hx
  ·exact⟨e0,hat,h0⟩
  exact Zai hR e0.args b' o' ⟨cs,_,hcs⟩ hc (fun i f hf=>hR e0 i f h0 hf) x hx⟩
 rcases ZQ.1 hx with rfl|hx
 ·refine⟨e0,hat,fun b2 o2 cap2 hc2 i hi=>?_⟩
  have hc3:w.cell? ⟨b,o+4,none⟩=some (.slice (some ⟨b2,o2,none⟩) e0.args.len cap2):=hc2
  rw[h4] at hc3
  simp only[Option.some.injEq,Value.slice.injEq,Addr.mk.injEq,and_true] at hc3
  obtain⟨⟨rfl,rfl⟩,_⟩:=hc3
  have:=qz w e0.args b' o' i hi
  simp[this]
 exact(qA e0.args b' o' ⟨cs,_,hcs⟩ hc x hx).mono (fun z hz=>by simp[hz])
structure Vg (w:World) (T:ByteArray→Int) (x0:Addr) (e0:PE) (occ:List Addr) (Ws:List Addr) (L:List (Addr × Value)):Prop where
 st:∀(i:Nat) (x:Addr),Ws[i]?=some x→∃e,At w x e∧x∈occ∧e.sz+i≤e0.sz∧(i=0→x=x0)
 dec:∀(i j:Nat) (x y:Addr) (e f:PE),i<j→Ws[i]?=some x→Ws[j]?=some y→At w x e→At w y f→f.sz<e.sz
 keys:∀p∈L,p.1∈occ∧K0 w p.1
 nodup:(L.map (·.1)).Nodup
 good:∀x v,Xz x L=some v→x∈Ws∨∃e,At w x e∧v=.int .i64 (evE T e)
 fin:Ws=[]→Xz x0 L=some (.int .i64 (evE T e0))
variable {w:World} {T:ByteArray→Int} {x0:Addr} {e0:PE} {occ Ws:List Addr} {L:List (Addr × Value)}
theorem Ec:∀(l m:List Addr),l.Nodup→(∀a∈l,a∈m)→l.length≤m.length
 | [],m,_,_=>Zk _
 | a::l,m,hn,hs=>by
  rw[List.nodup_cons] at hn
  have ha:=hs a (by simp)
  have h1:=Ec l (m.erase a) hn.2 (fun b hb=>(List.mem_erase_of_ne (fun e=>hn.1 (by rw[←e];exact hb))).2 (hs b (by simp[hb])))
  rw[List.length_erase_of_mem ha] at h1
  have:=List.length_pos_of_mem ha
  simp only[Zp]
  omega
theorem UE:∀(l:PL) (i:Nat),l.szFrom i≤l.sz
 | .nil,_=>Zc _
 | .cons _ _ _ _ _ _ tl,0=>Zc _
 | .cons k nm n d args a tl,i+1=>by
  have:=UE tl i
  show tl.szFrom i≤args.sz+1+tl.sz
  omega
theorem Vg.len (h:Vg w T x0 e0 occ Ws L):Ws.length≤e0.sz:=by
 by_cases hn:Ws.length=0
 ·omega
 obtain⟨e,_,_,h1,_⟩:=h.st (Ws.length-1) _ (Ze oq)
 have:1≤e.sz:=by unfold PE.sz;omega
 omega
theorem Vg.few (h:Vg w T x0 e0 occ Ws L):L.length≤occ.length:=by
 have h1:=h.nodup
 have:=Ec _ occ h1 (fun a ha=>by
  obtain⟨p,hp,rfl⟩:=Yc.1 ha
  exact(h.keys p hp).1)
 simpa using this
theorem yp {k:Addr}:∀{L:List (Addr × Value)},k∈L.map (·.1)→Xz k L≠none
 | [],h=>by cases h
 | p::L,h=>by
  unfold Xz
  by_cases hk:k=p.1
  ·rw[Z0 hk];simp
  rw[ZZ hk]
  refine yp ?_
  rcases ZQ.1 h with h|h
  ·exact absurd h hk
  exact h
theorem JA {k:Addr} {v:Value} {L:List (Addr × Value)} (h:(L.map (·.1)).Nodup):((QC k v L).map (·.1)).Nodup∧L.length≤(QC k v L).length:=by
 by_cases hk:Xz k L=none
 ·rw[Gg v hk]
  constructor
  ·rw[ZT,List.nodup_append]
   refine⟨h,by simp,?_⟩
   intro a ha b hb e
   simp at hb
   subst hb
   subst e
   exact yp ha hk
  simp
 have:=yQ v hk
 constructor
 ·rw[this];exact h
 have:=Z1 List.length this
 simp at this
 omega
theorem Vg.push (h:Vg w T x0 e0 occ Ws L) {x:Addr} {e:PE} (hx:Ws[Ws.length-1]?=some x) (he:At w x e) {y:Addr} {f:PE} (hy:At w y f) (hyo:y∈occ) (hf:f.sz<e.sz) (hg:Xz y L=none):Vg w T x0 e0 occ (Ws++[y]) (QC y (.int .i64 0) L):=by
 have hn:=(Zz.1 hx).1
 refine⟨?_,?_,?_,(JA h.nodup).1,?_,fun h=>by simp at h⟩
 ·intro i z hz
  by_cases hi:i<Ws.length
  ·rw[List.getElem?_append_left hi] at hz
   exact h.st i z hz
  have hil:i<(Ws++[y]).length:=(Zz.1 hz).1
  simp at hil
  obtain rfl:i=Ws.length:=oq
  simp at hz
  subst hz
  obtain⟨e',he',_,h2,_⟩:=h.st _ x hx
  have:=he'.one he
  subst this
  exact⟨f,hy,hyo,oq,fun h0=>oq⟩
 ·intro i j a b ea eb hij ha hb hea heb
  by_cases hj:j<Ws.length
  ·rw[List.getElem?_append_left hj] at hb
   rw[List.getElem?_append_left oq] at ha
   exact h.dec i j a b ea eb hij ha hb hea heb
  have hjl:j<(Ws++[y]).length:=(Zz.1 hb).1
  simp at hjl
  obtain rfl:j=Ws.length:=oq
  simp at hb
  subst hb
  have:=heb.one hy
  subst this
  rw[List.getElem?_append_left hij] at ha
  by_cases hil:i=Ws.length-1
  ·subst hil
   rw[hx] at ha
   injection ha with ha
   subst ha
   have:=hea.one he
   subst this
   exact hf
  exact Nat.lt_trans hf (h.dec i (Ws.length-1) a x ea e oq ha hx hea he)
 ·intro p hp
  rcases UA _ _ _ p hp with h1|⟨q,hq,h1⟩
  ·rw[h1]
   exact⟨hyo,hy.k0⟩
  rw[←h1]
  exact h.keys q hq
 intro z v hz
 rw[V5] at hz
 by_cases hzy:z=y
 ·exact .inl (by simp[hzy])
 rw[ZZ hzy] at hz
 rcases h.good z v hz with h1|h1
 ·exact .inl (by simp[h1])
 exact .inr h1
theorem Vg.pop (h:Vg w T x0 e0 occ Ws L) (h0:At w x0 e0) {x:Addr} {e:PE} (hx:Ws[Ws.length-1]?=some x) (he:At w x e):Vg w T x0 e0 occ (Ws.take (Ws.length-1)) (QC x (.int .i64 (evE T e)) L):=by
 have hn:=(Zz.1 hx).1
 have htk:∀(i:Nat) (z:Addr),(Ws.take (Ws.length-1))[i]?=some z→Ws[i]?=some z∧i<Ws.length-1:=by
  intro i z hz
  have hi:i<(Ws.take (Ws.length-1)).length:=(Zz.1 hz).1
  rw[Z9] at hi
  rw[Yl oq] at hz
  exact⟨hz,oq⟩
 obtain⟨e',he',hxo,_,hx0⟩:=h.st _ x hx
 refine⟨fun i z hz=>h.st i z (htk i z hz).1,fun i j a b ea eb hij ha hb hea heb=>h.dec i j a b ea eb hij (htk i a ha).1 (htk j b hb).1 hea heb,?_,(JA h.nodup).1,?_,?_⟩
 ·intro p hp
  rcases UA _ _ _ p hp with h1|⟨q,hq,h1⟩
  ·rw[h1]
   exact⟨hxo,he.k0⟩
  rw[←h1]
  exact h.keys q hq
 ·intro z v hz
  rw[V5] at hz
  by_cases hzx:z=x
  ·rw[Z0 hzx] at hz
   injection hz with hz
   subst hz
   subst hzx
   exact .inr ⟨e,he,rfl⟩
  rw[ZZ hzx] at hz
  rcases h.good z v hz with h1|h1
  ·left
   obtain⟨i,hi⟩:=List.mem_iff_getElem?.1 h1
   have hil:i<Ws.length:=(Zz.1 hi).1
   by_cases hil2:i=Ws.length-1
   ·rw[hil2,hx] at hi
    injection hi with hi
    exact absurd hi.symm hzx
   exact List.mem_iff_getElem?.2 ⟨i,by rw[Yl oq];exact hi⟩
  exact .inr h1
 intro hnil
 have hl:Ws.length=1:=by
  have:=Z1 List.length hnil
  rw[Z9] at this
  simp at this
  omega
 have hxx:x=x0:=hx0 oq
 subst hxx
 have:=he.one h0
 subst this
 rw[V5,Z0 rfl]
theorem Vg.start (h0:At w x0 e0) (ho:x0∈occ):Vg w T x0 e0 occ [x0] []:=by
 refine⟨?_,?_,(fun p hp=>by cases hp),(by simp),(fun x v h=>by cases h),(fun h=>by cases h)⟩
 ·intro i x hx
  cases i with
  | zero =>
   simp at hx
   subst hx
   exact⟨e0,h0,ho,oq,fun _=>rfl⟩
  | succ i=>simp at hx
 intro i j x y e f hij hx hy
 cases j with
 | zero=>omega
 | succ j=>simp at hy
theorem Vg.told (h:Vg w T x0 e0 occ Ws L) {x:Addr} {e:PE} (hx:Ws[Ws.length-1]?=some x) (he:At w x e) (b o:Nat) (hbo:∀e' j,e.args.at j=some e'→At w ⟨b,o+j*6,none⟩ e') (i:Nat):Za5 T e i (syn.Qa T L e.args b o i):=by
 cases hi:e.args.at i with
 | none =>
  have h1:syn.Qa T L e.args b o i=(.int .i64 0,none):=by unfold syn.Qa;rw[hi]
  rw[h1]
  refine⟨fun _=>?_,fun a h=>by cases h⟩
  rw[zP T e.args i (by
   by_cases hlt:e.args.len≤i
   ·exact hlt
   obtain⟨e',he',_⟩:=PL.at_some e.args i oq
   rw[hi] at he'
   cases he')]
 | some e' =>
  have hat:=hbo e' i hi
  have hev:evA T e.args i=evE T e':=qe T e.args i e' hi
  by_cases hk:e'.k=13
  ·cases hg:Xz ⟨b,o+i*6,none⟩ L with
   | none =>
    have h1:syn.Qa T L e.args b o i=(.int .i64 0,some ⟨b,o+i*6,none⟩):=by unfold syn.Qa;rw[hi];simp only;rw[Z0 hk,hg]
    rw[h1]
    exact⟨(fun h=>by cases h),fun a _=>rfl⟩
   | some v =>
    have h1:syn.Qa T L e.args b o i=(v,none):=by unfold syn.Qa;rw[hi];simp only;rw[Z0 hk,hg]
    rw[h1]
    refine⟨fun _=>?_,(fun a h=>by cases h)⟩
    rw[hev]
    rcases h.good _ v hg with h2|⟨e2,h2,h3⟩
    ·exfalso
     obtain⟨j,hj⟩:=List.mem_iff_getElem?.1 h2
     have hjl:j<Ws.length:=(Zz.1 hj).1
     have hsz:e'.sz<e.sz:=by
      have h4:i<e.args.len:=by
       by_cases hlt:i<e.args.len
       ·exact hlt
       rw[PL.at_none _ _ oq] at hi;cases hi
      obtain⟨e3,he3,h5⟩:=PL.at_some e.args i h4
      rw[hi] at he3
      injection he3 with he3
      subst he3
      have h6:e.args.szFrom i≤e.args.sz:=UE e.args i
      unfold PE.sz at *
      omega
     by_cases hjl2:j=Ws.length-1
     ·rw[hjl2,hx] at hj
      injection hj with hj
      subst hj
      have:=hat.one he
      subst this
      omega
     have:=h.dec j (Ws.length-1) _ x e' e oq hj hx hat he
     omega
    have:=h2.one hat
    subst this
    exact h3
  have h1:syn.Qa T L e.args b o i=(.int .i64 (sgE T e'.k e'.nm e'.n),none):=by unfold syn.Qa;rw[hi];simp only;rw[ZZ hk]
  rw[h1]
  refine⟨fun _=>?_,fun a h=>by cases h⟩
  rw[hev]
  unfold evE
  rw[ZZ hk]
end Go.Proofs.YtlhlcdjiafdoeaaGreatDoor.syn
