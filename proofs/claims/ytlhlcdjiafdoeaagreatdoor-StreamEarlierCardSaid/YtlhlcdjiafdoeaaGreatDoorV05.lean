/- Parts of the proof. -/
import Derived.Deep.AppendLies
import Derived.Deep.RegionHeld3
import Derived.Deep.Upon
import Derived.Test.YtlhlcdjiafdoeaaGreatDoorV04
set_option linter.all false
set_option maxRecDepth 100000
set_option maxHeartbeats 16000000
namespace Go.Proofs.YtlhlcdjiafdoeaaGreatDoor.syn
open Go.RowKit
def T3:Nat→Nat
 | 0=>3
 | 1=>4
 | 2=>5
 | p+3=>2*T3 p
theorem EA:∀p,T3 p+1≤T3 (p+1)
 | 0=>by decide
 | 1=>by decide
 | 2=>by decide
 | p+3=>by have:=EA p;show 2*T3 p+1≤2*T3 (p+1);omega
theorem U4 {p q:Nat} (h:p≤q):T3 p≤T3 q:=by
 induction h with
 | refl=>exact Zc _
 | step _ ih=>exact Zm ih (Nat.le_of_succ_le (EA _))
theorem Zbg {p:Nat} (h:p≤101):T3 p≤60000000000:=Zm (U4 h) (by decide)
def PL.at:PL→Nat→Option PE
 | .nil,_=>none
 | .cons k nm n d args a _,0=>some ⟨k,nm,n,d,args,a⟩
 | .cons _ _ _ _ _ _ tl,i+1=>tl.at i
def PL.szFrom:PL→Nat→Nat
 | .nil,_=>0
 | .cons _ _ _ _ args _ tl,0=>args.sz+1+tl.sz
 | .cons _ _ _ _ _ _ tl,i+1=>tl.szFrom i
theorem PL.szFrom0:∀l:PL,l.szFrom 0=l.sz
 | .nil=>rfl
 | .cons _ _ _ _ _ _ _=>rfl
theorem PL.at_some:∀(l:PL) (i:Nat),i<l.len→∃e,l.at i=some e∧l.szFrom i=e.sz+l.szFrom (i+1)
 | .nil,i,h=>absurd h (Yi _)
 | .cons k nm n d args a tl,0,_=>⟨⟨k,nm,n,d,args,a⟩,rfl,by show args.sz+1+tl.sz=(args.sz+1)+tl.szFrom 0;rw[PL.szFrom0]⟩
 | .cons _ _ _ _ _ _ tl,i+1,h=>tl.at_some i (Nat.lt_of_succ_lt_succ h)
def Ar2:PL→Prop
 | .nil=>True
 | .cons _ _ _ _ args _ tl=>(args=.nil∨2≤args.len)∧Ar2 args∧Ar2 tl
def VJ (e:PE):Prop:=(e.args=.nil∨2≤e.args.len)∧Ar2 e.args
theorem Ar2.at:∀(l:PL) (i:Nat) (e:PE),Ar2 l→l.at i=some e→VJ e
 | .cons k nm n d args a tl,0,e,h,he=>by injection he with he;subst he;exact⟨h.1,h.2.1⟩
 | .cons _ _ _ _ _ _ tl,i+1,e,h,he=>Ar2.at tl i e h.2.2 he
theorem X5:∀l:PL,l.len≤l.sz
 | .nil=>Zc _
 | .cons _ _ _ _ args _ tl=>by have:=X5 tl;simp only[PL.len,PL.sz];omega
theorem E6 {l:PL} (h:l.len=0):l=.nil:=by cases l with|nil=>rfl|cons _ _ _ _ _ _ _=>simp[PL.len] at h
theorem VJ.three {e:PE} (h:VJ e) (hn:e.args.len≠0):3≤e.sz:=by
 rcases h.1 with h|h
 ·rw[h] at hn;exact absurd rfl hn
 have:=X5 e.args;unfold PE.sz;omega
theorem uV {k n d:Int} {nm:ByteArray} {len:Nat} (h:bdE k n d nm len=true):len=0∨2≤len:=by
 unfold bdE at h
 split at h
 ·cases h
 split at h
 ·simp at h;omega
 split at h
 ·simp at h;omega
 split at h
 ·cases h
 split at h
 ·simp at h;omega
 split at h
 ·simp at h;omega
 cases h
theorem EM:∀l:PL,bdR l=true→Ar2 l
 | .nil,_=>trivial
 | .cons k nm n d args a tl,h=>by
  rw[bdR,ZA,ZA] at h
  refine⟨?_,EM args h.1.1,EM tl h.2⟩
  rcases uV h.1.2 with h|h
  ·exact .inl (E6 h)
  exact .inr h
theorem jY {e:PE} (h:JG e=true):VJ e:=by
 unfold JG at h
 rw[ZA] at h
 refine⟨?_,EM _ h.1⟩
 rcases uV h.2 with h|h
 ·exact .inl (E6 h)
 exact .inr h
structure Q3 (W:World) (b o:Nat) (e:PE):Prop where
 lt:b<W.heap.size
 fz:W.frozen? ⟨b,o,none⟩=false
 c0:W.cell? ⟨b,o,none⟩=some (.int .i64 e.k)
 c1:W.cell? ⟨b,o+1,none⟩=some (.string e.nm)
 c2:W.cell? ⟨b,o+2,none⟩=some (.int .i64 e.n)
 c3:W.cell? ⟨b,o+3,none⟩=some (.int .i64 e.d)
 c5:W.cell? ⟨b,o+5,none⟩=some (.int .i64 e.a)
 c4:∃ad cap,W.cell? ⟨b,o+4,none⟩=some (.slice ad e.args.len cap)∧(e.args=.nil∨∃b' o',ad=some ⟨b',o',none⟩∧b'<W.heap.size∧AC W e.args b' o'∧NF W e.args b' o')
 len:e.args.len≤9223372036854775807
theorem Q3.ptr {W w:World} {b o:Nat} {e:PE} (h:Q3 W b o e) (hb:Below W.heap.size W w):XM w (.pointer (some ⟨b,o,none⟩)):=by
 have hc:=h.c0
 unfold World.cell? at hc
 cases hh:W.heap[b]? with
 | none=>simp[hh] at hc
 | some ob =>
  cases ob with
  | cells cs t fr=>exact⟨b,o,cs,t,fr,rfl,(hb.block b h.lt).trans hh,(hb.frozen (p:=⟨b,o,none⟩) h.lt).trans h.fz⟩
  | _=>simp[hh] at hc
theorem Q3.child:∀(l:PL) {W:World} {b o:Nat},b<W.heap.size→AC W l b o→NF W l b o→∀i e,l.at i=some e→Q3 W b (o+i*6) e
 | .cons k nm n d args a tl,W,b,o,hlt,hac,hnf,0,e,he=>by
  injection he with he
  subst he
  obtain⟨h0,h1,h2,h3,h5,hn,⟨ad,cap,h4,hcap,hm,hd⟩,ht⟩:=hac
  rw[Nat.zero_mul,Nat.add_zero]
  refine⟨hlt,hnf.1,h0,h1,h2,h3,h5,⟨ad,cap,h4,?_⟩,Zm hcap hm⟩
  rcases hd with hd|⟨b',o',rfl,hb',hd⟩
  ·exact .inl hd
  exact .inr ⟨b',o',rfl,hb',hd,hnf.2.1 b' o' cap h4⟩
 | .cons _ _ _ _ _ _ tl,W,b,o,hlt,hac,hnf,i+1,e,he=>by
  have:=Q3.child tl hlt hac.2.2.2.2.2.2.2 hnf.2.2 i e he
  rw[show o+(i+1)*6=o+6+i*6 by omega]
  exact this
structure SE where
 b:Nat
 o:Nat
 next:Nat
 fr:Nat
 e:PE
def SE.v (s:SE):List Value:=[.pointer (some ⟨s.b,s.o,none⟩),.int .i64 s.next,.int .i64 s.fr]
def VI (stk:List SE):List Value:=stk.flatMap SE.v
def QG:List SE→Nat
 | []=>0
 | s::l=>s.e.args.szFrom s.next+QG l
theorem Q8 (a b:List SE):QG (a++b)=QG a+QG b:=by
 induction a with
 | nil=>simp[QG]
 | cons s l ih=>simp only[ZB,QG,ih];omega
theorem QE (a b:List SE):VI (a++b)=VI a++VI b:=by simp[VI]
theorem Q0:∀l:List SE,(VI l).length=l.length*3:=by
 intro l
 induction l with
 | nil=>rfl
 | cons s l ih=>show(s.v++VI l).length=_;rw[Zw,ih,Zp];show 3+_=_;omega
def PcV (nn:Nat) (v:Value):Prop:=∃f t:Nat,v=.agg #[.int .i64 f,.int .i64 t]∧f≤t∧t≤nn
theorem PcV.mono {n m:Nat} (h:n≤m) {v:Value} (hv:PcV n v):PcV m v:=by obtain⟨f,t,rfl,h1,h2⟩:=hv;exact⟨f,t,rfl,h1,oq⟩
def NmR (xs:List Value) (nn:Nat):Prop:=(∀u∈xs,u.oneCell'=true)∧∀j,j<nn→∃(k:Int) (nm:ByteArray) (n d a:Int),xs[j*6]?=some (.int .i64 k)∧xs[j*6+1]?=some (.string nm)∧xs[j*6+2]?=some (.int .i64 n)∧xs[j*6+3]?=some (.int .i64 d) ∧
 xs[j*6+4]?=some (.slice none 0 0)∧xs[j*6+5]?=some (.int .i64 a)
def Ki (W1:World) (v:Value):Prop:=∃b o e,v=.pointer (some ⟨b,o,none⟩)∧Q3 W1 b o e
theorem Ki.ptr {W1 w:World} (hb:Below W1.heap.size W1 w) (v:Value) (h:Ki W1 v):XM w v:=by obtain⟨b,o,e,rfl,h⟩:=h;exact h.ptr hb
def Xh (vn vo:Value) (mb:Nat):Obj:=.cells #[vn,vo,.map (some mb)] 271 (0,0)
structure GW (W1:World) (gb mb nn:Nat) (stk:List SE) (w:World):Prop where
 low:Below W1.heap.size W1 w
 hgb:W1.heap.size≤gb
 hmb:W1.heap.size≤mb
 sta:∃vn vo xs,w.heap[gb]?=some (Xh vn vo mb)∧w.ownsRow W1.heap.size 92 6 vn nn xs∧NmR xs nn∧w.ownsRow W1.heap.size 289 3 vo stk.length (VI stk)
 map:JM w mb (Ki W1) (PcV nn)
 stk:∀s∈stk,Q3 W1 s.b s.o s.e∧s.next≤s.e.args.len∧s.fr≤nn∧VJ s.e
theorem NmR.nil:NmR [] 0:=⟨fun u h=>(by cases h),fun j h=>absurd h (Yi _)⟩
theorem NmR.snoc {xs ys:List Value} {n m:Nat} (hx:xs.length=n*6) (h:NmR xs n) (k:NmR ys m):NmR (xs++ys) (n+m):=by
 refine⟨fun u hu=>?_,fun j hj=>?_⟩
 ·rcases List.mem_append.1 hu with hu|hu
  ·exact h.1 u hu
  exact k.1 u hu
 by_cases hjn:j<n
 ·obtain⟨k,nm,a,b,c,h0,h1,h2,h3,h4,h5⟩:=h.2 j hjn
  refine⟨k,nm,a,b,c,?_,?_,?_,?_,?_,?_⟩
  all_goals (rw[List.getElem?_append_left oq];assumption)
 obtain⟨k,nm,a,b,c,h0,h1,h2,h3,h4,h5⟩:=k.2 (j-n) oq
 have e:∀i,i<6→(xs++ys)[j*6+i]?=ys[(j-n)*6+i]?:=fun i hi=>by rw[List.getElem?_append_right oq];congr 1;omega
 exact⟨k,nm,a,b,c,(e 0 oq).trans h0,(e 1 oq).trans h1,(e 2 oq).trans h2,(e 3 oq).trans h3,(e 4 oq).trans h4,(e 5 oq).trans h5⟩
theorem NmR.part {xs:List Value} {n f t:Nat} (hx:xs.length=n*6) (h:NmR xs n) (hft:f≤t) (htn:t≤n):NmR ((xs.drop (f*6)).take ((t-f)*6)) (t-f):=by
 refine⟨fun u hu=>h.1 u (List.mem_of_mem_drop (List.mem_of_mem_take hu)),fun j hj=>?_⟩
 obtain⟨k,nm,a,b,c,h0,h1,h2,h3,h4,h5⟩:=h.2 (f+j) oq
 have e:∀i,i<6→((xs.drop (f*6)).take ((t-f)*6))[j*6+i]?=xs[(f+j)*6+i]?:=fun i hi=>by rw[Yl oq,List.getElem?_drop];congr 1;omega
 exact⟨k,nm,a,b,c,(e 0 oq).trans h0,(e 1 oq).trans h1,(e 2 oq).trans h2,(e 3 oq).trans h3,(e 4 oq).trans h4,(e 5 oq).trans h5⟩
structure Chg (S:Nat→Prop) (w w':World):Prop where
 os:w'.os=w.os
 tape:w'.tape=w.tape
 output:w'.output=w.output
 size:w.heap.size≤w'.heap.size
 block:∀k,k<w.heap.size→¬S k→w'.heap[k]?=w.heap[k]?
theorem VB {w:World} {base:Nat} {e:TypeId} {size:Nat} {v:Value} {n:Nat} {xs:List Value} (h:w.ownsRow base e size v n xs) {b:Nat} (hb:∀cur,w.heap[b]?≠some (.cells cur e (0,0))):v.ownBlock≠some b:=by
 intro he
 rcases h.2 with ⟨h1,_⟩|⟨g,cap,cur,h1,_,hg,_⟩
 ·rw[h1] at he;cases he
 rw[h1] at he
 injection he with he
 have he:g=b:=he
 subst he
 exact hb cur hg
theorem YZ {w w':World} {base:Nat} {e:TypeId} {size:Nat} {v:Value} {n:Nat} {xs:List Value} (h:w.ownsRow base e size v n xs) (hb:∀k,v.ownBlock=some k→w'.heap[k]?=w.heap[k]?):w'.ownsRow base e size v n xs:=by
 refine⟨h.1,?_⟩
 rcases h.2 with h1|⟨g,cap,cur,h1,h2,hg,h3⟩
 ·exact .inl h1
 exact .inr ⟨g,cap,cur,h1,h2,(hb g (by rw[h1];rfl)).trans hg,h3⟩
theorem GW.names {W1 w w':World} {gb mb nn nn':Nat} {stk:List SE} (h:GW W1 gb mb nn stk w) {vn vo v':Value} {xs xs':List Value} (hgb:w.heap[gb]?=some (Xh vn vo mb)) (hon:w.ownsRow W1.heap.size 92 6 vn nn xs)
  (hc:Chg (fun k=>k=gb∨vn.ownBlock=some k) w w') (hg':w'.heap[gb]?=some (Xh v' vo mb)) (hon':w'.ownsRow W1.heap.size 92 6 v' nn' xs') (hnm:NmR xs' nn') (hle:nn≤nn'):GW W1 gb mb nn' stk w':=by
 obtain⟨vn2,vo2,xs2,hgb2,hon2,hnm2,hoo⟩:=h.sta
 have e:=hgb.symm.trans hgb2
 simp only[Xh,Option.some.injEq,Obj.cells.injEq,Array.mk.injEq,List.cons.injEq,and_true,true_and] at e
 obtain⟨rfl,rfl⟩:=e
 have hml:=h.map.lt
 have hlow:=h.low.size
 have hmo:¬(mb=gb∨vn.ownBlock=some mb):=by
  obtain⟨arr,clock,hm,_⟩:=h.map
  rintro (e|e)
  ·rw[e,hgb] at hm;cases hm
  exact VB hon (b:=mb) (fun cur e2=>by rw[hm] at e2;cases e2) e
 refine⟨⟨hc.os.trans h.low.os,hc.tape.trans h.low.tape,hc.output.trans h.low.output,Zm h.low.size hc.size,fun k hk=>?_⟩,h.hgb,h.hmb,⟨v',vo,xs',hg',hon',hnm,?_⟩,h.map.keep (hc.block mb hml hmo) (fun v hv=>hv.mono hle),fun s hs=>?_⟩
 ·have hkb:¬(k=gb∨vn.ownBlock=some k):=by
   have:=h.hgb
   rintro (e|e)
   ·omega
   have:=(hon.lt k e).1;omega
  exact(hc.block k oq hkb).trans (h.low.block k hk)
 ·refine YZ hoo fun k hk=>hc.block k (hoo.lt k hk).2 ?_
  rintro (e|e)
  ·rw[e] at hk
   exact VB hoo (b:=gb) (fun cur e2=>by rw[hgb] at e2;injection e2 with e2;injection e2 with _ e2 _;exact absurd e2 (by decide)) hk
  rcases hon.2 with ⟨h1,_⟩|⟨g,cap,cur,h1,_,hg,_⟩
  ·rw[h1] at e;cases e
  rw[h1] at e
  injection e with e
  have e:g=k:=e
  subst e
  exact VB hoo (b:=g) (fun cur2 e2=>by rw[hg] at e2;injection e2 with e2;injection e2 with _ e2 _;exact absurd e2 (by decide)) hk
 obtain⟨h1,h2,h3,h4⟩:=h.stk s hs
 exact⟨h1,h2,Zm h3 hle,h4⟩
theorem Xv {w:World} {b:Nat} {v0 v1 v2:Value} {t:TypeId} (h:w.heap[b]?=some (.cells #[v0,v1,v2] t (0,0))) :
  (w.cell? ⟨b,0,none⟩=some v0∧w.cell? ⟨b,1,none⟩=some v1∧w.cell? ⟨b,2,none⟩=some v2)∧∀o,w.frozen? ⟨b,o,none⟩=false:=by
 refine⟨⟨?_,?_,?_⟩,?_⟩
 all_goals first|(intro o;simp[World.frozen?,h])|simp[World.cell?,h]
theorem JR {P:Program} {e:TypeId} {z:Value} {n b:Nat} (h:(P.info? e).map (fun i=>(i.zero,i.size,i.bytes))=some (some z,n,b)):∃i,P.info? e=some i∧i.zero=some z∧i.size=n∧i.bytes=b:=by
 cases hi:P.info? e with
 | none=>rw[hi] at h;cases h
 | some i=>rw[hi] at h;simp at h;exact⟨i,rfl,h.1,h.2.1,h.2.2⟩
theorem kG:(Tryz.prog.info? 92).map (fun i=>(i.zero,i.size,i.bytes))=some (some (.agg #[.int .i64 0,.string ⟨#[]⟩,.int .i64 0,.int .i64 0,.slice none 0 0,.int .i64 0]),6,72):=by kernel_rfl
theorem Zbs:(Tryz.prog.info? 289).map (fun i=>(i.zero,i.size,i.bytes))=some (some (.agg #[.pointer none,.int .i64 0,.int .i64 0]),3,24):=by kernel_rfl
theorem Zaq {w:World} {base:Nat} {e:TypeId} {size:Nat} {v:Value} {n:Nat} {xs:List Value} (h:w.ownsRow base e size v n xs) {b:Nat} (hb:b<base):some b≠v.ownBlock:=by
 intro e
 have:=(h.lt b e.symm).1
 omega
theorem Xm {w:World} {base:Nat} {e t:TypeId} {size:Nat} {v:Value} {n:Nat} {xs:List Value} (h:w.ownsRow base e size v n xs) {b:Nat} {cs:Array Value} {fr:Nat × Nat} (hb:w.heap[b]?=some (.cells cs t fr)) (ht:t≠e):some b≠v.ownBlock:=by
 intro he
 rcases h.2 with ⟨h1,_⟩|⟨g,cap,cur,h1,_,hg,_⟩
 ·rw[h1] at he;cases he
 rw[h1] at he
 injection he with he
 have he:b=g:=he
 subst he
 rw[hb] at hg
 injection hg with hg
 injection hg with _ hg _
 exact ht hg
def zEx:List Value:=[.int .i64 0,.string ⟨#[]⟩,.int .i64 0,.int .i64 0,.slice none 0 0,.int .i64 0]
structure ZcW (w w4:World) (gb b o gg nn:Nat) (vn:Value) (k:Int) (nm:ByteArray) (n d a:Int):Prop where
 ne:(gg≠gb∧gg≠b)∧¬gb=gg∧¬b=gg
 c0:w4.cell? ⟨b,o,none⟩=some (.int .i64 k)
 c1:w4.cell? ⟨b,o+1,none⟩=some (.string nm)
 c2:w4.cell? ⟨b,o+2,none⟩=some (.int .i64 n)
 c3:w4.cell? ⟨b,o+3,none⟩=some (.int .i64 d)
 c5:w4.cell? ⟨b,o+5,none⟩=some (.int .i64 a)
 g0:w4.cell? ⟨gb,0,none⟩=some vn
 gf:w4.frozen? ⟨gb,0,none⟩=false
 f:w4.frozen? ⟨gg,nn*6,none⟩=false∧w4.frozen? ⟨gg,nn*6+1,none⟩=false∧w4.frozen? ⟨gg,nn*6+2,none⟩=false∧w4.frozen? ⟨gg,nn*6+3,none⟩=false∧w4.frozen? ⟨gg,nn*6+4,none⟩=false∧w4.frozen? ⟨gg,nn*6+5,none⟩=false
 q:w4.cell? ⟨gg,nn*6,none⟩=some (.int .i64 0)∧w4.cell? ⟨gg,nn*6+1,none⟩=some (.string ⟨#[]⟩)∧w4.cell? ⟨gg,nn*6+2,none⟩=some (.int .i64 0)∧w4.cell? ⟨gg,nn*6+3,none⟩=some (.int .i64 0)∧w4.cell? ⟨gg,nn*6+4,none⟩=some (.slice none 0 0)∧w4.cell? ⟨gg,nn*6+5,none⟩=some (.int .i64 0)
theorem vS {w w4:World} {base gb b o nn gg cap:Nat} {vn vo vm:Value} {xs:List Value} {ob:Obj} {k n d a:Int} {nm:ByteArray} (hb:w.heap[gb]?=some (.cells #[vn,vo,vm] 271 (0,0))) (hon:w.ownsRow base 92 6 vn nn xs) (hlt:b<base) (hbase:base≤w.heap.size)
  (d0:w.cell? ⟨b,o,none⟩=some (.int .i64 k)) (d1:w.cell? ⟨b,o+1,none⟩=some (.string nm)) (d2:w.cell? ⟨b,o+2,none⟩=some (.int .i64 n)) (d3:w.cell? ⟨b,o+3,none⟩=some (.int .i64 d)) (d5:w.cell? ⟨b,o+5,none⟩=some (.int .i64 a))
  (hown:w4.ownsRow base 92 6 (.slice (some ⟨gg,0,none⟩) (nn+1) cap) (nn+1) (xs++zEx)) (hg:((w.drew).alloc ob).grownBy w4 vn.ownBlock) (hat:vn.ownBlock=some gg∨gg=w.heap.size+1):ZcW w w4 gb b o gg nn vn k nm n d a:=by
 have hgl:=Zb hb
 have e1:=Xm hon hb (by decide)
 have e2:=Zaq hon hlt
 have n1:gg≠gb:=by
  intro e
  rcases hat with h|h
  ·rw[e] at h;exact e1 h.symm
  omega
 have n2:gg≠b:=by
  intro e
  rcases hat with h|h
  ·rw[e] at h;exact e2 h.symm
  omega
 obtain⟨⟨x0,x1,x2⟩,xf⟩:=Xv hb
 have kc:∀(bb oo:Nat),bb<w.heap.size→some bb≠vn.ownBlock→w4.cell? ⟨bb,oo,none⟩=w.cell? ⟨bb,oo,none⟩:=fun bb oo h1 h2=>(hg.cell_far ⟨bb,oo,none⟩ (by simp;omega) h2).trans ((Zg w.heap.size w).drew.alloc (by exact Zc _) ob |>.cell (p:=⟨bb,oo,none⟩) h1)
 have kf:∀(bb oo:Nat),bb<w.heap.size→some bb≠vn.ownBlock→w4.frozen? ⟨bb,oo,none⟩=w.frozen? ⟨bb,oo,none⟩:=fun bb oo h1 h2=>(hg.frozen_far ⟨bb,oo,none⟩ (by simp;omega) h2).trans ((Zg w.heap.size w).drew.alloc (by exact Zc _) ob |>.frozen (p:=⟨bb,oo,none⟩) h1)
 have ff:=fun j=>hown.frozenAt j
 have qq:∀j,j<6→w4.cell? ⟨gg,nn*6+j,none⟩=zEx[j]?:=by
  intro j hj
  rw[hown.cellAt _ oq,List.getElem?_append_right (by rw[hon.1];omega),hon.1,Nat.add_sub_cancel_left]
 refine⟨⟨⟨n1,n2⟩,fun e=>n1 e.symm,fun e=>n2 e.symm⟩,(kc b _ oq e2).trans d0,(kc b _ oq e2).trans d1,(kc b _ oq e2).trans d2,(kc b _ oq e2).trans d3,(kc b _ oq e2).trans d5,(kc gb _ hgl e1).trans x0,(kf gb _ hgl e1).trans (xf 0),⟨ff _,ff _,ff _,ff _,ff _,ff _⟩,⟨qq 0 oq,qq 1 oq,qq 2 oq,qq 3 oq,qq 4 oq,qq 5 oq⟩⟩
def s6 (w:World) (g o:Nat) (v0 v1 v2 v3 v4 v5:Value):World:=(((((w.setCell ⟨g,o,none⟩ v0).setCell ⟨g,o+1,none⟩ v1).setCell ⟨g,o+2,none⟩ v2).setCell ⟨g,o+3,none⟩ v3).setCell ⟨g,o+4,none⟩ v4).setCell ⟨g,o+5,none⟩ v5
theorem gB {w:World} {base:Nat} {e:TypeId} {size g n cap:Nat} {ys:List Value} (h:w.ownsRow base e size (.slice (some ⟨g,0,none⟩) n cap) n ys) (o:Nat) (v0 v1 v2 v3 v4 v5:Value) :
  (s6 w g o v0 v1 v2 v3 v4 v5).ownsRow base e size (.slice (some ⟨g,0,none⟩) n cap) n ((((((ys.set o v0).set (o+1) v1).set (o+2) v2).set (o+3) v3).set (o+4) v4).set (o+5) v5) :=
 (((((((h.stored o v0).1).stored (o+1) v1).1.stored (o+2) v2).1.stored (o+3) v3).1.stored (o+4) v4).1.stored (o+5) v5).1
theorem Kd (w:World) (g o:Nat) (v0 v1 v2 v3 v4 v5:Value) (k:Nat) (hk:k≠g):(s6 w g o v0 v1 v2 v3 v4 v5).heap[k]?=w.heap[k]?:=by
 have hs:∀(w:World) (o:Nat) (v:Value),(w.setCell ⟨g,o,none⟩ v).heap[k]?=w.heap[k]?:=fun w o v=>heap_setCell_other w ⟨g,o,none⟩ k v hk
 unfold s6
 simp only[hs]
theorem Y3 (w:World) (a:Addr) (v:Value):(w.setCell a v).os=w.os∧(w.setCell a v).tape=w.tape∧(w.setCell a v).output=w.output:=⟨rfl,rfl,rfl⟩
theorem Jm (w:World) (g o:Nat) (v0 v1 v2 v3 v4 v5:Value):(s6 w g o v0 v1 v2 v3 v4 v5).os=w.os∧(s6 w g o v0 v1 v2 v3 v4 v5).tape=w.tape∧(s6 w g o v0 v1 v2 v3 v4 v5).output=w.output:=by
 unfold s6;simp only[Y3,and_self]
theorem jI (w:World) (g o:Nat) (v0 v1 v2 v3 v4 v5:Value):(s6 w g o v0 v1 v2 v3 v4 v5).heap.size=w.heap.size:=by simp[s6,World.setCell]
theorem ZcO {xs:List Value} {n:Nat} (hx:xs.length=n*6) (z0 z1 z2 z3 z4 z5 v0 v1 v2 v3 v4 v5:Value) :
  ((((((xs++[z0,z1,z2,z3,z4,z5]).set (n*6) v0).set (n*6+1) v1).set (n*6+2) v2).set (n*6+3) v3).set (n*6+4) v4).set (n*6+5) v5=xs++[v0,v1,v2,v3,v4,v5]:=by
 have e:∀(i:Nat) (l:List Value) (v:Value),(xs++l).set (n*6+i) v=xs++l.set i v:=fun i l v=>by rw[List.set_append_right _ _ oq];congr 2;omega
 have e0:=e 0
 simp only[Nat.add_zero] at e0
 rw[e0,e,e,e,e,e]
 rfl
theorem qp {w:World} {gb mb:Nat} {vn vo:Value} (h:w.heap[gb]?=some (Xh vn vo mb)) (v':Value):(w.setCell ⟨gb,0,none⟩ v').heap[gb]?=some (Xh v' vo mb) :=
 Zj w gb 0 _ _ v' h
theorem jw {w:World} {gb mb:Nat} {vn vo:Value} (h:w.heap[gb]?=some (Xh vn vo mb)) (v':Value):(w.setCell ⟨gb,1,none⟩ v').heap[gb]?=some (Xh vn v' mb) :=
 Zj w gb 1 _ _ v' h
theorem jB {k:Int} {nm:ByteArray} {n d a:Int}:NmR [.int .i64 k,.string nm,.int .i64 n,.int .i64 d,.slice none 0 0,.int .i64 a] 1 :=
 ⟨by simp[Value.oneCell'],fun j hj=>by obtain rfl:j=0:=oq;exact⟨k,nm,n,d,a,rfl,rfl,rfl,rfl,rfl,rfl⟩⟩
theorem vR {W1 w w4:World} {gb mb nn gg cap:Nat} {stk:List SE} {vn vo:Value} {xs:List Value} {ob:Obj} (h:GW W1 gb mb nn stk w) (hgb:w.heap[gb]?=some (Xh vn vo mb)) (hon:w.ownsRow W1.heap.size 92 6 vn nn xs) (hnm:NmR xs nn)
  (hown:w4.ownsRow W1.heap.size 92 6 (.slice (some ⟨gg,0,none⟩) (nn+1) cap) (nn+1) (xs++zEx)) (hg:((w.drew).alloc ob).grownBy w4 vn.ownBlock) (hat:vn.ownBlock=some gg∨gg=w.heap.size+1) (hne:gg≠gb) (k:Int) (nm:ByteArray) (n d a:Int) :
  GW W1 gb mb (nn+1) stk ((s6 w4 gg (nn*6) (.int .i64 k) (.string nm) (.int .i64 n) (.int .i64 d) (.slice none 0 0) (.int .i64 a)).setCell ⟨gb,0,none⟩ (.slice (some ⟨gg,0,none⟩) (nn+1) cap)) ∧
  GW W1 gb mb (nn+1) stk (s6 (w4.setCell ⟨gb,0,none⟩ (.slice (some ⟨gg,0,none⟩) (nn+1) cap)) gg (nn*6) (.int .i64 k) (.string nm) (.int .i64 n) (.int .i64 d) (.slice none 0 0) (.int .i64 a)):=by
 have hgl:=Zb hgb
 have e1:=Xm hon hgb (by decide)
 have hal:∀j,j<w.heap.size→((w.drew).alloc ob).heap[j]?=w.heap[j]?:=fun j hj=>Za w.drew ob j hj
 have h4b:∀j,j<w.heap.size→vn.ownBlock≠some j→w4.heap[j]?=w.heap[j]?:=fun j hj hn=>(hg.block j (by simp;omega) (fun e=>hn e.symm)).trans (hal j hj)
 have hgb4:w4.heap[gb]?=some (Xh vn vo mb):=(h4b gb hgl (fun e=>e1 e.symm)).trans hgb
 have hs4:w.heap.size≤w4.heap.size:=by have:=hg.size;simp at this;omega
 have hkg:∀j,j<w.heap.size→¬(j=gb∨vn.ownBlock=some j)→j≠gg:=by
  intro j hj hn e
  rcases hat with h1|h1
  ·exact hn (.inr (by rw[e];exact h1))
  omega
 refine⟨h.names hgb hon ⟨?_,?_,?_,?_,fun j hj hn=>?_⟩ (qp ((Kd w4 gg _ _ _ _ _ _ _ gb (fun e=>hne e.symm)).trans hgb4) _) (xs':=xs++[.int .i64 k,.string nm,.int .i64 n,.int .i64 d,.slice none 0 0,.int .i64 a]) ?_ (hnm.snoc hon.1 jB) oq,
  h.names hgb hon ⟨?_,?_,?_,?_,fun j hj hn=>?_⟩ ((Kd _ gg _ _ _ _ _ _ _ gb (fun e=>hne e.symm)).trans (qp hgb4 _)) (xs':=xs++[.int .i64 k,.string nm,.int .i64 n,.int .i64 d,.slice none 0 0,.int .i64 a]) ?_ (hnm.snoc hon.1 jB) oq⟩
 ·exact((Y3 _ _ _).1.trans (Jm _ _ _ _ _ _ _ _ _).1).trans hg.os
 ·exact((Y3 _ _ _).2.1.trans (Jm _ _ _ _ _ _ _ _ _).2.1).trans hg.tape
 ·exact((Y3 _ _ _).2.2.trans (Jm _ _ _ _ _ _ _ _ _).2.2).trans hg.output
 ·rw[show((s6 w4 gg (nn*6) (.int .i64 k) (.string nm) (.int .i64 n) (.int .i64 d) (.slice none 0 0) (.int .i64 a)).setCell ⟨gb,0,none⟩ (.slice (some ⟨gg,0,none⟩) (nn+1) cap)).heap.size=w4.heap.size by rw[←jI w4 gg (nn*6) (.int .i64 k) (.string nm) (.int .i64 n) (.int .i64 d) (.slice none 0 0) (.int .i64 a)];simp[World.setCell]];exact hs4
 ·rw[heap_setCell_other _ _ _ _ (show j≠gb from fun e=>hn (.inl e)),Kd _ _ _ _ _ _ _ _ _ _ (hkg j hj hn)]
  exact h4b j hj (fun e=>hn (.inr e))
 ·have:=gB hown (nn*6) (.int .i64 k) (.string nm) (.int .i64 n) (.int .i64 d) (.slice none 0 0) (.int .i64 a)
  rw[zEx,ZcO hon.1] at this
  exact YZ this fun j hj=>heap_setCell_other _ _ _ _ (fun e=>hne (by have:some gg=some j:=hj;injection this with this;rw[this];exact e))
 ·exact((Jm _ _ _ _ _ _ _ _ _).1.trans (Y3 _ _ _).1).trans hg.os
 ·exact((Jm _ _ _ _ _ _ _ _ _).2.1.trans (Y3 _ _ _).2.1).trans hg.tape
 ·exact((Jm _ _ _ _ _ _ _ _ _).2.2.trans (Y3 _ _ _).2.2).trans hg.output
 ·rw[jI];simpa [World.setCell] using hs4
 ·rw[Kd _ _ _ _ _ _ _ _ _ _ (hkg j hj hn),heap_setCell_other _ _ _ _ (show j≠gb from fun e=>hn (.inl e))]
  exact h4b j hj (fun e=>hn (.inr e))
 have hown':(w4.setCell ⟨gb,0,none⟩ (.slice (some ⟨gg,0,none⟩) (nn+1) cap)).ownsRow W1.heap.size 92 6 (.slice (some ⟨gg,0,none⟩) (nn+1) cap) (nn+1) (xs++zEx) :=
  YZ hown fun j hj=>heap_setCell_other _ _ _ _ (fun e=>hne (by have:some gg=some j:=hj;injection this with this;rw[this];exact e))
 have:=gB hown' (nn*6) (.int .i64 k) (.string nm) (.int .i64 n) (.int .i64 d) (.slice none 0 0) (.int .i64 a)
 rw[zEx,ZcO hon.1] at this
 exact this
def XB (b o:Nat) (k:Int) (nm:ByteArray) (n d a:Int) (w':World):Prop:=w'.cell? ⟨b,o,none⟩=some (.int .i64 k)∧w'.cell? ⟨b,o+1,none⟩=some (.string nm)∧w'.cell? ⟨b,o+2,none⟩=some (.int .i64 n)∧w'.cell? ⟨b,o+3,none⟩=some (.int .i64 d)∧w'.cell? ⟨b,o+5,none⟩=some (.int .i64 a)
theorem XB.set {b o:Nat} {k:Int} {nm:ByteArray} {n d a:Int} {w':World} (h:XB b o k nm n d a w') {g j:Nat} (hg:¬b=g) (u:Value):XB b o k nm n d a (w'.setCell ⟨g,j,none⟩ u):=by
 have hc:∀o,(w'.setCell ⟨g,j,none⟩ u).cell? ⟨b,o,none⟩=w'.cell? ⟨b,o,none⟩:=fun o=>ZF _ _ _ _ (fun e=>hg e.symm)
 exact⟨(hc _).trans h.1,(hc _).trans h.2.1,(hc _).trans h.2.2.1,(hc _).trans h.2.2.2.1,(hc _).trans h.2.2.2.2⟩
theorem XB.drew {b o:Nat} {k:Int} {nm:ByteArray} {n d a:Int} {w':World} (h:XB b o k nm n d a w'):XB b o k nm n d a w'.drew:=h
theorem XB.alloc {b o:Nat} {k:Int} {nm:ByteArray} {n d a:Int} {w':World} (h:XB b o k nm n d a w') (ob:Obj):XB b o k nm n d a (w'.alloc ob):=by
 have hb:b<w'.heap.size:=World.block_lt_of_cell? w' ⟨b,o,none⟩ h.1
 have hc:∀o,(w'.alloc ob).cell? ⟨b,o,none⟩=w'.cell? ⟨b,o,none⟩:=fun o=>World.cell?_alloc_lt _ _ _ hb
 exact⟨(hc _).trans h.1,(hc _).trans h.2.1,(hc _).trans h.2.2.1,(hc _).trans h.2.2.2.1,(hc _).trans h.2.2.2.2⟩
theorem kQ {W1 w:World} {gb mb nn:Nat} {stk:List SE} (h:GW W1 gb mb nn stk w) {b o:Nat} {e:PE} (he:Q3 W1 b o e) (hk:e.k=11) (hn:nn≤60000000000) :
  Calls Tryz.prog 166 #[.pointer (some ⟨gb,0,none⟩),.pointer (some ⟨b,o,none⟩)] w fun x w'=>x=.returned (.tuple #[])∧GW W1 gb mb (nn+1) stk w':=by
 obtain⟨vn,vo,xs,hgbb,hon,hnm,hoo⟩:=h.sta
 have HL:=hid h.low
 have HM:=hid h.map
 have hgb:=h.hgb
 have hmb:=h.hmb
 have HS:=hid h.stk
 have HON:=hid hon
 have HNM:=hid hnm
 have HOO:=hid hoo
 have HG:=hid hgbb
 obtain⟨⟨g0,g1,g2⟩,gf⟩:=Xv hgbb
 obtain⟨k,nm,n,d,args,a⟩:=e
 obtain⟨hlt,hfz,c0,c1,c2,c3,c5,⟨ad,cap,c4,_⟩,_⟩:=he
 simp only at hk c0 c1 c2 c3 c5 c4
 subst hk
 have hc:=fun o=>h.low.cell (p:=⟨b,o,none⟩) hlt
 have d0:=(hc o).trans c0
 have d1:=(hc (o+1)).trans c1
 have d2:=(hc (o+2)).trans c2
 have d3:=(hc (o+3)).trans c3
 have d5:=(hc (o+5)).trans c5
 have hsz:=h.low.size
 have hgl:=Zb hgbb
 obtain⟨i0,hi0,hi1,hi2,hi3⟩:=JR kG
 have HI:=hid (Zh hi0 (Zh hi1 (Zh hi2 hi3)))
 obtain⟨ln,cn,hvn⟩:∃ad cn,vn=.slice ad nn cn:=by
  rcases hon.2 with ⟨h1,h2⟩|⟨g,cap,cur,h1,_⟩
  ·exact⟨none,0,by rw[h1,h2]⟩
  exact⟨_,cap,h1⟩
 subst hvn
 have HPF:=hid (fun(w4:World) (gg cap:Nat) hown hg hat=>vS (w4:=w4) (gg:=gg) (cap:=cap) (ob:=.cells #[.int .i64 0,.string ⟨#[]⟩,.int .i64 0,.int .i64 0,.slice none 0 0,.int .i64 0] 92) hgbb hon hlt hsz d0 d1 d2 d3 d5 hown hg hat)
 have HPC:=hid (fun(w4:World) (gg cap:Nat) hown hg hat hne=>vR (w4:=w4) (gg:=gg) (cap:=cap) (ob:=.cells #[.int .i64 0,.string ⟨#[]⟩,.int .i64 0,.int .i64 0,.slice none 0 0,.int .i64 0] 92) h hgbb hon hnm hown hg hat hne 11 nm n d a)
 clear h hi0 hi1 hi2 hi3 hc c0 c1 c2 c3 c4 c5 hon hnm hoo hgbb hfz
 have hnn0:(0:Int)≤(nn:Int):=oq
 have hnn1:(nn:Int)<(nn:Int)+1:=oq
 have HB:=hid (Zh hn (Zh hgl (Zh hlt hsz)))
 clear hn
 go_enter Tryz.func166,Tryz.ntmps166
 go_wp2
 have KA:=hid (show XB b o 11 nm n d a w from ⟨d0,d1,d2,d3,d5⟩)
 have hbgb:¬b=gb:=oq
 clear d0 d1 d2 d3 d5
 refine ZN (S:=fun w'=>w'.cell? ⟨b,o,none⟩=some (.int .i64 11)∧w'.cell? ⟨b,o+1,none⟩=some (.string nm)∧w'.cell? ⟨b,o+2,none⟩=some (.int .i64 n)∧w'.cell? ⟨b,o+3,none⟩=some (.int .i64 d)∧w'.cell? ⟨b,o+5,none⟩=some (.int .i64 a)) kq (by(show XB b o 11 nm n d a _;repeat (first|with_reducible exact KA.out|with_reducible exact KC.out|with_reducible refine XB.drew ?_|with_reducible refine XB.alloc ?_ _|(with_reducible refine XB.set ?_ hbn _)|(with_reducible refine XB.set ?_ hbgb _)))) (fun hHeld=>?_)
 refine tk 0 (by assumption) ?_
 refine tk 1 (by assumption) ?_
 refine tk 2 (by assumption) ?_
 refine tk 4 (by assumption) ?_
 refine tk 5 (by assumption) ?_
 refine tk 6 (by assumption) ?_
 refine tk 7 (by assumption) ?_
 refine tk 8 (by assumption) ?_
 refine tk 9 (by assumption) ?_
 refine tk 10 (by assumption) ?_
 refine tk 11 (by assumption) ?_
 refine tk 12 (by assumption) ?_
 refine tk 13 (by assumption) ?_
 refine tk 14 (by assumption) ?_
 refine tk 15 (by assumption) ?_
 refine tk 16 (by assumption) ?_
 refine tk 17 (by assumption) ?_
 refine tk 18 (by assumption) ?_
 refine tk 19 (by assumption) ?_
 refine tk 20 (by assumption) ?_
 refine tk 21 (by assumption) ?_
 refine tk 22 (by assumption) ?_
 refine tk 23 (by assumption) ?_
 refine tk 24 (by assumption) ?_
 refine rz 3 26 (fun K hK=>?_) fun K hK=>?_
 ·go_simp
  refine hK.out _ _ (fun hHeld=>?_) (by show XB b o 11 nm n d a _;exact sq)
  clear hK K
  refine tk 25 (by assumption) ?_
  refine ry 26 fun K hK=>?_
  go_simp
  refine hK.out _ _ (fun hHeld=>?_) (by show XB b o 11 nm n d a _;exact sq)
  clear hK K
  refine ry 27 fun K hK=>?_
  (refine step_append_lies _ (by rfl) _ _ _ (by rfl) W1.heap.size 92 i0 _ 6 72 Tryz.underlying90 HI.out.1 HI.out.2.1 HI.out.2.2.1 HI.out.2.2.2 rfl oq (.slice ln nn cn) nn xs (by rfl) (HON.out.drew.alloc _) ⟨w.heap.size,0,none⟩ 1 1 zEx (by rfl) (by rfl) (World.news_of_block (Zy w.drew _)) (by simp[Value.oneCell',zEx]) oq (by have:=HB.out.1;unfold maxLen;omega) (by have:=HB.out.1;omega) (by have:=HB.out.2.2.2;simp;omega) (w.heap.size+1) (by simp) ?_;intro gg cap w4 hown4 hgrow4 hat4 hlt4;have KP:=HPF.out w4 gg cap hown4 hgrow4 hat4;have HOWN4:=hid hown4;have HGROW4:=hid hgrow4;have HAT4:=hid hat4;clear hown4 hgrow4 hat4;have KC:=hid (show XB b o 11 nm n d a w4 from ⟨KP.c0,KP.c1,KP.c2,KP.c3,KP.c5⟩);obtain⟨f0,f1,f2,f3,f4,f5⟩:=KP.f;obtain⟨q0,q1,q2,q3,q4,q5⟩:=KP.q;have kgf:=KP.gf;have kg0:=KP.g0;obtain⟨hne,hgn,hbn⟩:=KP.ne;have HNE:=hid hne.1;clear hne KP)
  refine hK.out _ _ (fun hHeld=>?_) (by show XB b o 11 nm n d a _;exact sq)
  clear hK K
  refine tk 28 (by assumption) ?_
  refine tk 30 (by assumption) ?_
  refine tk 31 (by assumption) ?_
  refine rz 29 32 (fun K hK=>?_) fun K hK=>?_
  ·go_simp
   refine hK.out _ _ (fun hHeld=>?_) (by show XB b o 11 nm n d a _;exact sq)
   clear hK K
   refine ry 32 fun K hK=>?_
   go_simp
   refine hK.out _ _ (fun hHeld=>?_) (by show XB b o 11 nm n d a _;exact sq)
   clear hK K
   refine Zx kq ?_ _
   (go_wp2;refine Zl (v:=.tuple #[]) ?_ rfl ?_;(focus (simp[results,Tryz.results166]));exact⟨rfl,(HPC.out _ _ _ HOWN4.out HGROW4.out HAT4.out HNE.out).1⟩)
  go_simp
  refine hK.out _ _ (fun hHeld=>?_) (by show XB b o 11 nm n d a _;exact sq)
  clear hK K
  refine ry 29 fun K hK=>?_
  go_simp
  refine hK.out _ _ (fun hHeld=>?_) (by show XB b o 11 nm n d a _;exact sq)
  clear hK K
  refine Zx kq ?_ _
  (go_wp2;refine Zl (v:=.tuple #[]) ?_ rfl ?_;(focus (simp[results,Tryz.results166]));exact⟨rfl,(HPC.out _ _ _ HOWN4.out HGROW4.out HAT4.out HNE.out).2⟩)
 go_simp
 refine hK.out _ _ (fun hHeld=>?_) (by show XB b o 11 nm n d a _;exact sq)
 clear hK K
 refine ry 3 fun K hK=>?_
 go_simp
 refine hK.out _ _ (fun hHeld=>?_) (by show XB b o 11 nm n d a _;exact sq)
 clear hK K
 refine tk 25 (by assumption) ?_
 refine ry 27 fun K hK=>?_
 (refine step_append_lies _ (by rfl) _ _ _ (by rfl) W1.heap.size 92 i0 _ 6 72 Tryz.underlying90 HI.out.1 HI.out.2.1 HI.out.2.2.1 HI.out.2.2.2 rfl oq (.slice ln nn cn) nn xs (by rfl) (HON.out.drew.alloc _) ⟨w.heap.size,0,none⟩ 1 1 zEx (by rfl) (by rfl) (World.news_of_block (Zy w.drew _)) (by simp[Value.oneCell',zEx]) oq (by have:=HB.out.1;unfold maxLen;omega) (by have:=HB.out.1;omega) (by have:=HB.out.2.2.2;simp;omega) (w.heap.size+1) (by simp) ?_;intro gg cap w4 hown4 hgrow4 hat4 hlt4;have KP:=HPF.out w4 gg cap hown4 hgrow4 hat4;have HOWN4:=hid hown4;have HGROW4:=hid hgrow4;have HAT4:=hid hat4;clear hown4 hgrow4 hat4;have KC:=hid (show XB b o 11 nm n d a w4 from ⟨KP.c0,KP.c1,KP.c2,KP.c3,KP.c5⟩);obtain⟨f0,f1,f2,f3,f4,f5⟩:=KP.f;obtain⟨q0,q1,q2,q3,q4,q5⟩:=KP.q;have kgf:=KP.gf;have kg0:=KP.g0;obtain⟨hne,hgn,hbn⟩:=KP.ne;have HNE:=hid hne.1;clear hne KP)
 refine hK.out _ _ (fun hHeld=>?_) (by show XB b o 11 nm n d a _;exact sq)
 clear hK K
 refine tk 28 (by assumption) ?_
 refine tk 30 (by assumption) ?_
 refine tk 31 (by assumption) ?_
 refine rz 29 32 (fun K hK=>?_) fun K hK=>?_
 ·go_simp
  refine hK.out _ _ (fun hHeld=>?_) (by show XB b o 11 nm n d a _;exact sq)
  clear hK K
  refine ry 32 fun K hK=>?_
  go_simp
  refine hK.out _ _ (fun hHeld=>?_) (by show XB b o 11 nm n d a _;exact sq)
  clear hK K
  refine Zx kq ?_ _
  (go_wp2;refine Zl (v:=.tuple #[]) ?_ rfl ?_;(focus (simp[results,Tryz.results166]));exact⟨rfl,(HPC.out _ _ _ HOWN4.out HGROW4.out HAT4.out HNE.out).1⟩)
 go_simp
 refine hK.out _ _ (fun hHeld=>?_) (by show XB b o 11 nm n d a _;exact sq)
 clear hK K
 refine ry 29 fun K hK=>?_
 go_simp
 refine hK.out _ _ (fun hHeld=>?_) (by show XB b o 11 nm n d a _;exact sq)
 clear hK K
 refine Zx kq ?_ _
 (go_wp2;refine Zl (v:=.tuple #[]) ?_ rfl ?_;(focus (simp[results,Tryz.results166]));exact⟨rfl,(HPC.out _ _ _ HOWN4.out HGROW4.out HAT4.out HNE.out).2⟩)
theorem kP {W1 w:World} {gb mb nn:Nat} {stk:List SE} (h:GW W1 gb mb nn stk w) {b o:Nat} {e:PE} (he:Q3 W1 b o e) (hk:e.k≠11) (hn:e.args=.nil) :
  Calls Tryz.prog 166 #[.pointer (some ⟨gb,0,none⟩),.pointer (some ⟨b,o,none⟩)] w fun x w'=>x=.returned (.tuple #[])∧w'=w:=by
 obtain⟨k,nm,n,d,args,a⟩:=e
 obtain⟨hlt,hfz,c0,c1,c2,c3,c5,⟨ad,cap,c4,_⟩,_⟩:=he
 simp only at hk c0 c4 hn
 subst hn
 have hc:=fun o=>h.low.cell (p:=⟨b,o,none⟩) hlt
 have d0:=(hc o).trans c0
 have d4:=(hc (o+4)).trans c4
 have hk':(k == 11)=false:=ZW.2 hk
 simp only[PL.len] at d4
 clear h hc c0 c1 c2 c3 c4 c5 hk
 go_enter Tryz.func166,Tryz.ntmps166
 go_wp2
 refine Zl (v:=.tuple #[]) ?_ rfl ?_
 ·simp[results,Tryz.results166]
 exact⟨rfl,rfl⟩
theorem Gk {P:Program} (w:World) (base:Nat) (t ty e:TypeId) (i:TypeInfo) (z:Value) (size bytes:Nat) (ht:P.underlying t=some (.slice e)) (hi:P.info? e=some i) (hz:i.zero=some z)
  (hsize:i.size=size) (hby:i.bytes=bytes) (hzs:z.cells.size=size) (hsz:0<size)
  (v:Value) (n:Nat) (xs:List Value) (hown:w.ownsRow base e size v n xs)
  (ad:Option Addr) (m c:Nat) (news:List Value) (hl:news.length=m*size) (hnews:∀j u,news[j]?=some u→∃x:Addr,ad=some x∧w.cell? (x.add j)=some u) (h1:∀u∈news,u.oneCell'=true)
  (h63:n+m≤maxLen) (hbytes:(n+m)*bytes≤140737488355328) (hbase:base≤w.heap.size) :
  ∃v' w',(Builtin.append_ #[t,t] ty #[v,.slice ad m c]).run P w=.ok v' w'∧w'.ownsRow base e size v' (n+m) (xs++news)∧w.grownBy w' v.ownBlock∧(v'.ownBlock=v.ownBlock∨v'.ownBlock=some w.heap.size):=by
 cases ad with
 | some a =>
  obtain⟨v',w',hr,h2,h3,_,h5⟩:=run_append_own_at (P:=P) w base t ty e i z size bytes ht hi hz hsize hby hzs hsz v n xs hown a m c news hl (fun j u h=>by obtain⟨x,hx,hc⟩:=hnews j u h;cases hx;exact hc) h1 h63 hbytes hbase
  exact⟨v',w',hr,h2,h3,h5⟩
 | none =>
  have hm:m=0:=by
   cases news with
   | nil =>
    have h:m*size=0:=hl.symm
    rcases Nat.mul_eq_zero.1 h with h|h
    ·exact h
    omega
   | cons u us=>obtain⟨x,hx,_⟩:=hnews 0 u rfl;cases hx
  subst hm
  obtain rfl:news=[]:=by simpa using hl
  have key:∀(b:Option Addr) (k cp:Nat),k≤cp→(Builtin.append_ #[t,t] ty #[.slice b k cp,.slice none 0 c]).run P w=.ok (.slice b k cp) w:=by
   intro b k cp hle
   refine run_append_nothing w t t ty e i ht hi b k cp hle _ ⟨.inl ⟨_,ht⟩,?_,?_,?_,by simp,by simp⟩
   ·intro w';simp[Builtin.lenOf]
   ·simp[Builtin.firstCells]
   simp[Builtin.firstCells]
  have hown':=hown
  rcases hown.2 with ⟨rfl,rfl⟩|⟨g,cap,cur,rfl,hb,hg,hnc,hcm,hcs,htk⟩
  ·refine⟨_,w,key _ _ _ (Zc _),by simpa using hown',World.grownBy.refl _ _,.inl rfl⟩
  refine⟨_,w,key _ _ _ hnc,by simpa using hown',World.grownBy.refl _ _,.inl rfl⟩
theorem XW {P:Program} (w:World) {ops:Array Oper} {o:Oper} {a:Act} {K:Act→World→Prop} {Q:Exit→Act→World→Prop} {E:Prop} (hgd:o.guard=none) (s x:Operand) (t:TypeId)
  (ho:o.op=.call { callee:=.builtin .append,args:=#[s,x],argTypes:=#[t,t] })
  (base:Nat) (e:TypeId) (i:TypeInfo) (z:Value) (size bytes:Nat) (ht:P.underlying t=some (.slice e)) (hi:P.info? e=some i) (hz:i.zero=some z)
  (hsize:i.size=size) (hby:i.bytes=bytes) (hzs:z.cells.size=size) (hsz:0<size)
  (v:Value) (n:Nat) (xs:List Value) (hs:a.eval s=v) (hown:w.ownsRow base e size v n xs)
  (ad:Option Addr) (m c:Nat) (news:List Value) (hx:a.eval x=.slice ad m c) (hl:news.length=m*size) (hnews:∀j u,news[j]?=some u→∃x:Addr,ad=some x∧w.cell? (x.add j)=some u) (h1:∀u∈news,u.oneCell'=true)
  (h63:n+m≤maxLen) (hbytes:(n+m)*bytes≤140737488355328) (hbase:base≤w.heap.size)
  (h:∀v' w',w'.ownsRow base e size v' (n+m) (xs++news)→w.grownBy w' v.ownBlock→(v'.ownBlock=v.ownBlock∨v'.ownBlock=some w.heap.size)→K (a.put o.dst v') w') :
  if Region.wanted o (yielded ops a.tmps)=true then Oper.wp P o a w K Q else E:=by
 have hw:Region.wanted o (yielded ops a.tmps)=true:=by simp[Region.wanted,hgd]
 rw[Z0 hw]
 obtain⟨v',w',hr,h2,h3,h4⟩:=Gk (P:=P) w base t o.type e i z size bytes ht hi hz hsize hby hzs hsz v n xs hown ad m c news hl hnews h1 h63 hbytes hbase
 unfold Oper.wp execOp
 simp only[ho,resolve,invoke,builtin,Sem.run_bind,Sem.run_pure,ZO,List.map_toArray,List.map_cons,List.map_nil,hs,hx,hr]
 exact h v' w' h2 h3 h4
theorem GW.same {W1 w w':World} {gb mb nn:Nat} {stk:List SE} (h:GW W1 gb mb nn stk w) (hc:Below w.heap.size w w'):GW W1 gb mb nn stk w':=by
 obtain⟨vn,vo,xs,hgb,hon,hnm,hoo⟩:=h.sta
 exact h.names hgb hon ⟨hc.os,hc.tape,hc.output,hc.size,fun k hk _=>hc.block k hk⟩ ((hc.block gb (Zb hgb)).trans hgb) (YZ hon fun k hk=>hc.block k (hon.lt k hk).2) hnm (Zc _)
theorem XV {w:World} {base:Nat} {e:TypeId} {size:Nat} {v:Value} {n:Nat} {xs:List Value} (h:w.ownsRow base e size v n xs):∃ad c,v=.slice ad n c:=by
 rcases h.2 with ⟨h1,h2⟩|⟨g,cap,cur,h1,_⟩
 ·exact⟨none,0,by rw[h1,h2]⟩
 exact⟨_,cap,h1⟩
theorem zb {w:World} {base:Nat} {e:TypeId} {size:Nat} {ad:Option Addr} {c n:Nat} {xs:List Value} (h:w.ownsRow base e size (.slice ad n c) n xs):n≤c:=by
 rcases h.2 with ⟨h1,h2⟩|⟨g,cap,cur,h1,_,_,h2,_⟩
 ·omega
 injection h1 with _ _ h1;omega
theorem yI {w:World} {base:Nat} {e:TypeId} {size:Nat} {a:Addr} {c n:Nat} {xs:List Value} (h:w.ownsRow base e size (.slice (some a) n c) n xs):∃g,a=⟨g,0,none⟩:=by
 rcases h.2 with ⟨h1,h2⟩|⟨g,cap,cur,h1,_⟩
 ·cases h1
 injection h1 with h1 _ _;injection h1 with h1;exact⟨g,h1⟩
theorem VC {W1 w:World} {gb mb nn:Nat} {stk:List SE} {vn vo:Value} (h:GW W1 gb mb nn stk w) (hg:w.heap[gb]?=some (Xh vn vo mb)):(∃xs,w.ownsRow W1.heap.size 92 6 vn nn xs∧NmR xs nn)∧w.ownsRow W1.heap.size 289 3 vo stk.length (VI stk):=by
 obtain⟨vn2,vo2,xs2,hgb2,hon2,hnm2,hoo⟩:=h.sta
 have e:=hg.symm.trans hgb2
 simp only[Xh,Option.some.injEq,Obj.cells.injEq,Array.mk.injEq,List.cons.injEq,and_true,true_and] at e
 obtain⟨rfl,rfl⟩:=e
 exact⟨⟨xs2,hon2,hnm2⟩,hoo⟩
theorem Zbq {W1 w w2 w3:World} {gb mb nn:Nat} {stk:List SE} {vn vo:Value} {ob:Obj} (h:GW W1 gb mb nn stk w) (hg:w.heap[gb]?=some (Xh vn vo mb)) (hb:Below w.heap.size w w2) (hu:Upon mb (w2.alloc ob) w3) (hm:JM w3 mb (Ki W1) (PcV nn)) (hml:mb<w.heap.size) :
  GW W1 gb mb nn stk w3∧w3.heap[gb]?=some (Xh vn vo mb):=by
 have hmo:=h.map
 obtain⟨arr,clock,hmm,_⟩:=hmo
 have hb2:Below w.heap.size w (w2.alloc ob):=hb.alloc hb.size _
 have hk:∀k,k<w.heap.size→k≠mb→w3.heap[k]?=w.heap[k]?:=fun k hk hne=>(hu.block k (Zd hk hb2.size) hne).trans (hb2.block k hk)
 have hlow:=h.low.size
 have hg3:w3.heap[gb]?=some (Xh vn vo mb):=(hk gb (Zb hg) (fun e=>by rw[e,hmm] at hg;cases hg)).trans hg
 obtain⟨⟨xs,hon,hnm⟩,hoo⟩:=VC h hg
 have ho:∀{e:TypeId} {size n:Nat} {v:Value} {xs:List Value},w.ownsRow W1.heap.size e size v n xs→w3.ownsRow W1.heap.size e size v n xs:=fun h=>YZ h fun k hk2=>hk k (h.lt k hk2).2 (fun e=>VB h (b:=mb) (fun cur e2=>by rw[hmm] at e2;cases e2) (by rw[←e];exact hk2))
 refine⟨⟨⟨hu.os.trans (hb2.os.trans h.low.os),hu.tape.trans (hb2.tape.trans h.low.tape),hu.output.trans (hb2.output.trans h.low.output),Zm hlow (Zm hb2.size hu.size),fun k hk1=>(hk k oq (by have:=h.hmb;omega)).trans (h.low.block k hk1)⟩,h.hgb,h.hmb,⟨vn,vo,xs,hg3,ho hon,hnm,ho hoo⟩,hm,h.stk⟩,hg3⟩
def SG (gb:Nat) (v:Value) (w':World):Prop:=w'.cell? ⟨gb,0,none⟩=some v
theorem SG.drew {gb:Nat} {v:Value} {w':World} (h:SG gb v w'):SG gb v w'.drew:=h
theorem SG.alloc {gb:Nat} {v:Value} {w':World} (h:SG gb v w') (ob:Obj):SG gb v (w'.alloc ob):=by
 have hb:gb<w'.heap.size:=World.block_lt_of_cell? w' ⟨gb,0,none⟩ h
 exact(World.cell?_alloc_lt _ _ _ hb).trans h
theorem SG.set1 {gb:Nat} {v:Value} {w':World} (h:SG gb v w') (u:Value):SG gb v (w'.setCell ⟨gb,1,none⟩ u):=(World.cell?_setCell_other w' ⟨gb,1,none⟩ ⟨gb,0,none⟩ u (fun e=>by injection e with _ e _;cases e)).trans h
def SP (pb f t:Nat) (w':World):Prop:=w'.cell? ⟨pb,0,none⟩=some (.int .i64 (f:Int))∧w'.cell? ⟨pb,1,none⟩=some (.int .i64 (t:Int))
theorem SP.drew {pb f t:Nat} {w':World} (h:SP pb f t w'):SP pb f t w'.drew:=h
theorem SP.set {pb f t:Nat} {w':World} (h:SP pb f t w') {g j:Nat} (hg:¬pb=g) (u:Value):SP pb f t (w'.setCell ⟨g,j,none⟩ u) :=
 ⟨(ZF _ _ _ _ (fun e=>hg e.symm)).trans h.1,(ZF _ _ _ _ (fun e=>hg e.symm)).trans h.2⟩
theorem qE {W1 w w4:World} {gb mb nn gg cap b o:Nat} {stk:List SE} {vn vo:Value} {e:PE} {ob:Obj} (h:GW W1 gb mb nn stk w) (hgb:w.heap[gb]?=some (Xh vn vo mb)) (he:Q3 W1 b o e)
  (hown:w4.ownsRow W1.heap.size 289 3 (.slice (some ⟨gg,0,none⟩) (stk.length+1) cap) (stk.length+1) (VI stk++[.pointer (some ⟨b,o,none⟩),.int .i64 0,.int .i64 nn])) (hg:((w.drew).alloc ob).grownBy w4 vo.ownBlock) (hat:vo.ownBlock=some gg∨gg=w.heap.size+1) :
  w4.cell? ⟨gb,0,none⟩=some vn∧w4.cell? ⟨gb,1,none⟩=some vo∧w4.frozen? ⟨gb,1,none⟩=false∧∀ar:VJ e,GW W1 gb mb nn (stk++[⟨b,o,0,nn,e⟩]) (w4.setCell ⟨gb,1,none⟩ (.slice (some ⟨gg,0,none⟩) (stk.length+1) cap)):=by
 obtain⟨⟨xs,hon,hnm⟩,hoo⟩:=VC h hgb
 have hgl:=Zb hgb
 have e1:=Xm hoo hgb (by decide)
 have hal:∀j,j<w.heap.size→((w.drew).alloc ob).heap[j]?=w.heap[j]?:=fun j hj=>Za w.drew ob j hj
 have h4b:∀j,j<w.heap.size→vo.ownBlock≠some j→w4.heap[j]?=w.heap[j]?:=fun j hj hn=>(hg.block j (by simp;omega) (fun e=>hn e.symm)).trans (hal j hj)
 have hgb4:w4.heap[gb]?=some (Xh vn vo mb):=(h4b gb hgl (fun e=>e1 e.symm)).trans hgb
 obtain⟨⟨c0,c1,c2⟩,cf⟩:=Xv hgb4
 have hs4:w.heap.size≤w4.heap.size:=by have:=hg.size;simp at this;omega
 have hml:=h.map.lt
 obtain⟨arr,clock,hmm,_⟩:=id h.map
 have hne:gg≠gb:=by
  intro e
  rcases hat with h1|h1
  ·rw[e] at h1;exact e1 h1.symm
  omega
 have hw5:∀j,j<w.heap.size→j≠gb→vo.ownBlock≠some j→(w4.setCell ⟨gb,1,none⟩ (.slice (some ⟨gg,0,none⟩) (stk.length+1) cap)).heap[j]?=w.heap[j]?:=fun j hj hn1 hn2=>(heap_setCell_other _ _ _ _ (show j≠gb from hn1)).trans (h4b j hj hn2)
 have hmo:vo.ownBlock≠some mb:=VB hoo (b:=mb) (fun cur e2=>by rw[hmm] at e2;cases e2)
 have hlow:=h.low.size
 refine⟨c0,c1,cf 1,fun ar=>⟨⟨?_,?_,?_,?_,fun k hk=>?_⟩,h.hgb,h.hmb,⟨vn,_,xs,jw hgb4 _,?_,hnm,?_⟩,h.map.keep (hw5 mb hml (fun e=>by rw[←e,hmm] at hgb;cases hgb) hmo) (fun _ h=>h),fun s hs=>?_⟩⟩
 ·exact(Y3 _ _ _).1.trans (hg.os.trans h.low.os)
 ·exact(Y3 _ _ _).2.1.trans (hg.tape.trans h.low.tape)
 ·exact(Y3 _ _ _).2.2.trans (hg.output.trans h.low.output)
 ·simp[World.setCell];omega
 ·have:=h.hgb
  exact(hw5 k oq oq (fun e=>by have:=(hoo.lt k e).1;omega)).trans (h.low.block k hk)
 ·refine YZ hon fun k hk=>hw5 k (hon.lt k hk).2 (fun e=>Xm hon hgb (by decide) (by rw[←e];exact hk.symm)) (fun e=>?_)
  rcases hoo.2 with ⟨h1,_⟩|⟨g,cap2,cur,h1,_,hgo,_⟩
  ·rw[h1] at e;cases e
  rw[h1] at e
  injection e with e
  have e:g=k:=e
  subst e
  exact Xm hon hgo (by decide) hk.symm
 ·have hl:(stk++[(⟨b,o,0,nn,e⟩:SE)]).length=stk.length+1:=by simp
  rw[hl,QE]
  exact YZ hown fun j hj=>heap_setCell_other _ _ _ _ (fun e=>hne (by have:some gg=some j:=hj;injection this with this;rw[this];exact e))
 rcases List.mem_append.1 hs with hs|hs
 ·exact h.stk s hs
 rw[List.mem_singleton.1 hs]
 exact⟨he,Zk _,Zc _,ar⟩
theorem vV {w:World} {base nn cn f t:Nat} {ln:Option Addr} {xs:List Value} (h:w.ownsRow base 92 6 (.slice ln nn cn) nn xs) (hnm:NmR xs nn) (hft:f≤t∧t≤nn) :
  ((xs.drop (f*6)).take ((t-f)*6)).length=(t-f)*6∧(∀j u,((xs.drop (f*6)).take ((t-f)*6))[j]?=some u→∃x:Addr,(match ln with|none=>none|some a=>if cn=f then some ⟨a.block,0,none⟩ else some ⟨a.block,f*6,none⟩)=some x∧w.drew.cell? (x.add j)=some u)∧∀u∈(xs.drop (f*6)).take ((t-f)*6),u.oneCell'=true:=by
 have hl:=h.1
 refine⟨by simp;omega,fun j u hu=>?_,fun u hu=>hnm.1 u (List.mem_of_mem_drop (List.mem_of_mem_take hu))⟩
 have hj:j<(t-f)*6:=by
  rcases Nat.lt_or_ge j ((t-f)*6) with h|h
  ·exact h
  rw[Ya (by simp;omega)] at hu;cases hu
 rw[Yl hj,List.getElem?_drop] at hu
 have hc:=zb h
 cases ln with
 | none =>
  rcases h.2 with ⟨h1,h2⟩|⟨g,cap,cur,h1,_⟩
  ·omega
  cases h1
 | some a =>
  obtain⟨g,rfl⟩:=yI h
  refine⟨⟨g,f*6,none⟩,by simp only;rw[ZZ oq],?_⟩
  have:=h.cellAt (f*6+j) oq
  rw[show(⟨g,f*6,none⟩:Addr).add j=⟨g,f*6+j,none⟩ by unfold Addr.add;by_cases h1:j=0<;>simp[h1]]
  exact this.trans hu
theorem yq {W1 w w4:World} {gb mb nn pb f t:Nat} {stk:List SE} {vn vo v':Value} {xs:List Value} (h:GW W1 gb mb nn stk w) (hgb:w.heap[gb]?=some (Xh vn vo mb)) (hon:w.ownsRow W1.heap.size 92 6 vn nn xs) (hnm:NmR xs nn)
  (hpb:w.heap[pb]?=some (.cells #[.int .i64 f,.int .i64 t] 286 (0,0))) (hft:f≤t∧t≤nn) (hown:w4.ownsRow W1.heap.size 92 6 v' (nn+(t-f)) (xs++(xs.drop (f*6)).take ((t-f)*6))) (hg:(w.drew).grownBy w4 vn.ownBlock) (hat:v'.ownBlock=vn.ownBlock∨v'.ownBlock=some (w.drew).heap.size) :
  SP pb f t w4∧w4.cell? ⟨gb,0,none⟩=some vn∧w4.frozen? ⟨gb,0,none⟩=false∧GW W1 gb mb (nn+(t-f)) stk (w4.setCell ⟨gb,0,none⟩ v'):=by
 have hgl:=Zb hgb
 have e1:=Xm hon hgb (by decide)
 have e2:=Xm hon hpb (by decide)
 have h4b:∀j,j<w.heap.size→vn.ownBlock≠some j→w4.heap[j]?=w.heap[j]?:=fun j hj hn=>hg.block j (by simpa using hj) (fun e=>hn e.symm)
 have hgb4:w4.heap[gb]?=some (Xh vn vo mb):=(h4b gb hgl (fun e=>e1 e.symm)).trans hgb
 have hpb4:=(h4b pb (Zb hpb) (fun e=>e2 e.symm)).trans hpb
 obtain⟨⟨c0,c1,c2⟩,cf⟩:=Xv hgb4
 have hs4:w.heap.size≤w4.heap.size:=by have:=hg.size;simpa using this
 refine⟨⟨by simp[World.cell?,hpb4],by simp[World.cell?,hpb4]⟩,c0,cf 0,h.names hgb hon ⟨?_,?_,?_,?_,fun j hj hn=>?_⟩ (qp hgb4 _) ?_ (hnm.snoc hon.1 (hnm.part hon.1 hft.1 hft.2)) oq⟩
 ·exact(Y3 _ _ _).1.trans hg.os
 ·exact(Y3 _ _ _).2.1.trans hg.tape
 ·exact(Y3 _ _ _).2.2.trans hg.output
 ·simp[World.setCell];exact hs4
 ·exact(heap_setCell_other _ _ _ _ (show j≠gb from fun e=>hn (.inl e))).trans (h4b j hj (fun e=>hn (.inr e)))
 refine YZ hown fun j hj=>heap_setCell_other _ _ _ _ (fun e=>?_)
 have e:j=gb:=e
 rw[e] at hj
 rcases hat with h1|h1
 ·exact e1 (hj.symm.trans h1)
 rw[hj] at h1
 injection h1 with h1
 simp at h1
 omega
theorem ZcK {nn:Nat} {u:Value} {b:Bool} (hy:b=true→PcV nn u) (hz:b=false→u=.agg #[.int .i64 0,.int .i64 0]):∃f t:Nat,u=.agg #[.int .i64 (f:Int),.int .i64 (t:Int)]∧(f≤t∧t≤nn):=by
 cases b with
 | true=>obtain⟨f,t,h1,h2,h3⟩:=hy rfl;exact⟨f,t,h1,h2,h3⟩
 | false=>exact⟨0,0,hz rfl,Zc _,Zk _⟩
theorem vH {W1 w:World} {gb mb nn:Nat} {stk:List SE} (h:GW W1 gb mb nn stk w) {b o:Nat} {e:PE} (he:Q3 W1 b o e) (hk:e.k≠11) (hl:e.args.len≠0) (hn:nn≤60000000000) (hso:stk.length≤1000) (har:VJ e) :
  Calls Tryz.prog 166 #[.pointer (some ⟨gb,0,none⟩),.pointer (some ⟨b,o,none⟩)] w fun x w'=>x=.returned (.tuple #[])∧((∃m,m≤2*nn∧GW W1 gb mb m stk w')∨GW W1 gb mb nn (stk++[⟨b,o,0,nn,e⟩]) w'):=by
 obtain⟨vn,vo,xs,hgbb,hon,hnm,hoo⟩:=h.sta
 have HGW:=hid h
 have HM:=hid h.map
 have HKP:=hid (fun v hv=>Ki.ptr h.low v hv)
 have HPT:=hid (he.ptr h.low)
 have HE:=hid he
 have hgb:=h.hgb
 have hmb:=h.hmb
 have HON:=hid hon
 have HNM:=hid hnm
 have HOO:=hid hoo
 have HG:=hid hgbb
 obtain⟨⟨g0,g1,g2⟩,gf⟩:=Xv hgbb
 obtain⟨k,nm,n,d,args,a⟩:=e
 obtain⟨hlt,hfz,c0,c1,c2,c3,c5,⟨ad,cap,c4,_⟩,_⟩:=he
 simp only at hk c0 c4 hl
 have hc:=fun o=>h.low.cell (p:=⟨b,o,none⟩) hlt
 have d0:=(hc o).trans c0
 have d4:=(hc (o+4)).trans c4
 have hk':(k == 11)=false:=ZW.2 hk
 have hl':((args.len:Int) == 0)=false:=ZW.2 oq
 have hsz:=h.low.size
 have hgl:=Zb hgbb
 have hml:=h.map.lt
 clear h hc c0 c1 c2 c3 c4 c5 hk hl hon hnm hoo hgbb hfz
 go_enter Tryz.func166,Tryz.ntmps166
 go_wp2_with (first|(at_lookup;refine zm Uz _ rfl _ _ rfl mb (Ki W1) (PcV nn) _ rfl rfl HM.out HKP.out HPT.out ?_;intro u bb w2 hy hz hs2 hb2;obtain⟨f,t,rfl,hft⟩:=ZcK hy hz;have HFT:=hid hft;clear hy hz hft;have HB2:=hid hb2;obtain⟨⟨p0,p1,p2⟩,pf⟩:=Xv ((hb2.block _ hgl).trans HG.out);clear hb2;cases bb)|(at_mapUpdate;refine UU Uz _ rfl _ _ _ rfl mb (Ki W1) (PcV nn) _ (.agg #[.int .i64 0,.int .i64 0]) rfl rfl rfl (HM.out.keep (by exact(Za _ _ _ oq).trans (HB2.out.block _ hml)) (fun _ h=>h)) (fun v hv=>(HKP.out v hv).keep (fun b cs t fr hb=>⟨cs,(Za _ _ _ (by have:=Zb hb;omega)).trans ((HB2.out.block _ (Zb hb)).trans hb)⟩)) ⟨b,o,_,rfl,HE.out⟩ ⟨0,0,rfl,Zc _,Zk _⟩ ?_;intro w3 hu3 hs3 hm3;have HU3:=hid hu3;have HM3:=hid hm3;clear hu3 hm3))
 ·obtain⟨hgw3,hg3⟩:=Zbq HGW.out HG.out HB2.out HU3.out HM3.out hml
  have hlow3:=hgw3.low
  obtain⟨lo,co,hvo⟩:∃ad co,vo=.slice ad stk.length co:=XV HOO.out
  subst hvo
  obtain⟨ln,cn,hvn⟩:∃ad cn,vn=.slice ad nn cn:=XV HON.out
  subst hvn
  have HOO:=hid (VC hgw3 hg3).2
  obtain⟨⟨q0,q1,q2⟩,qf⟩:=Xv hg3
  obtain⟨i0,hi0,hi1,hi2,hi3⟩:=JR Zbs
  have HI:=hid (Zh hi0 (Zh hi1 (Zh hi2 hi3)))
  have hgl3:=Zb hg3
  have HB:=hid (Zh hso (Zh hgl3 hlow3.size))
  have KA:=hid (show SG gb (.slice ln nn cn) w3 from q0)
  have HPF:=hid (fun(w4:World) (gg cap:Nat) hown hg hat=>qE (w4:=w4) (gg:=gg) (cap:=cap) (ob:=.cells #[.pointer (some ⟨b,o,none⟩),.int .i64 0,.int .i64 nn] 289) hgw3 hg3 HE.out hown hg hat)
  clear hgw3 hg3 hlow3 hi0 hi1 hi2 hi3 p0 p1 p2 pf g0 g1 g2 gf hs3 hs2 d0 d4 hso HFT HB2 HU3 HM3 HGW HM HKP HPT HON HNM HG
  refine ZN (S:=fun w'=>w'.cell? ⟨gb,0,none⟩=some (.slice ln nn cn)) kq (by(show SG gb (.slice ln nn cn) _;repeat (first|with_reducible exact KA.out|with_reducible exact KC.out|with_reducible refine SG.drew ?_|with_reducible refine SG.alloc ?_ _|(with_reducible refine SG.set1 ?_ _)))) (fun hHeld=>?_)
  refine tk 0 hHeld ?_
  refine tk 1 hHeld ?_
  refine tk 2 hHeld ?_
  refine tk 3 hHeld ?_
  refine tk 5 hHeld ?_
  refine tk 6 hHeld ?_
  refine tk 7 hHeld ?_
  refine tk 8 hHeld ?_
  refine tk 9 hHeld ?_
  refine tk 10 hHeld ?_
  refine tk 11 hHeld ?_
  refine rz 4 12 (fun K hK=>?_) fun K hK=>?_
  ·go_simp
   refine hK.out _ _ (fun hHeld=>?_) (by show SG gb (.slice ln nn cn) _;exact sq)
   clear hK K
   refine ry 12 fun K hK=>?_
   go_simp
   refine hK.out _ _ (fun hHeld=>?_) (by show SG gb (.slice ln nn cn) _;exact sq)
   clear hK K
   refine ry 13 fun K hK=>?_
   (refine step_append_lies _ (by rfl) _ _ _ (by rfl) W1.heap.size 289 i0 _ 3 24 Tryz.underlying269 HI.out.1 HI.out.2.1 HI.out.2.2.1 HI.out.2.2.2 rfl oq (.slice lo stk.length co) stk.length (VI stk) (by rfl) (HOO.out.drew.alloc _) ⟨w3.heap.size,0,none⟩ 1 1 [.pointer (some ⟨b,o,none⟩),.int .i64 0,.int .i64 nn] (by rfl) (by rfl) (World.news_of_block (Zy w3.drew _)) (by simp[Value.oneCell']) oq (by have:=HB.out.1;unfold maxLen;omega) (by have:=HB.out.1;omega) (by have:=HB.out.2.2;simp;omega) (w3.heap.size+1) (by simp) ?_;intro gg cap w4 hown4 hgrow4 hat4 hlt4;have KP:=HPF.out w4 gg cap hown4 hgrow4 hat4;have KC:=hid (show SG gb (.slice ln nn cn) w4 from KP.1);have kg1:=KP.2.1;have kgf:=KP.2.2.1;have HCL:=hid KP.2.2.2;clear KP hown4 hgrow4 hat4)
   refine hK.out _ _ (fun hHeld=>?_) (by show SG gb (.slice ln nn cn) _;exact sq)
   clear hK K
   refine tk 14 hHeld ?_
   refine tk 15 hHeld ?_
   refine ry 16 fun K hK=>?_
   go_simp
   refine hK.out _ _ (fun hHeld=>?_) (by show SG gb (.slice ln nn cn) _;exact sq)
   clear hK K
   refine Zx kq ?_ _
   (go_wp2;all_goals (refine bodyPost_end (v:=.tuple #[]) ?_ rfl ?_;(focus (simp[results,Tryz.results166]));exact⟨rfl,.inr (HCL.out har)⟩))
  go_simp
  refine hK.out _ _ (fun hHeld=>?_) (by show SG gb (.slice ln nn cn) _;exact sq)
  clear hK K
  refine ry 4 fun K hK=>?_
  go_simp
  refine hK.out _ _ (fun hHeld=>?_) (by show SG gb (.slice ln nn cn) _;exact sq)
  clear hK K
  refine ry 13 fun K hK=>?_
  (refine step_append_lies _ (by rfl) _ _ _ (by rfl) W1.heap.size 289 i0 _ 3 24 Tryz.underlying269 HI.out.1 HI.out.2.1 HI.out.2.2.1 HI.out.2.2.2 rfl oq (.slice lo stk.length co) stk.length (VI stk) (by rfl) (HOO.out.drew.alloc _) ⟨w3.heap.size,0,none⟩ 1 1 [.pointer (some ⟨b,o,none⟩),.int .i64 0,.int .i64 nn] (by rfl) (by rfl) (World.news_of_block (Zy w3.drew _)) (by simp[Value.oneCell']) oq (by have:=HB.out.1;unfold maxLen;omega) (by have:=HB.out.1;omega) (by have:=HB.out.2.2;simp;omega) (w3.heap.size+1) (by simp) ?_;intro gg cap w4 hown4 hgrow4 hat4 hlt4;have KP:=HPF.out w4 gg cap hown4 hgrow4 hat4;have KC:=hid (show SG gb (.slice ln nn cn) w4 from KP.1);have kg1:=KP.2.1;have kgf:=KP.2.2.1;have HCL:=hid KP.2.2.2;clear KP hown4 hgrow4 hat4)
  refine hK.out _ _ (fun hHeld=>?_) (by show SG gb (.slice ln nn cn) _;exact sq)
  clear hK K
  refine tk 14 hHeld ?_
  refine tk 15 hHeld ?_
  refine ry 16 fun K hK=>?_
  go_simp
  refine hK.out _ _ (fun hHeld=>?_) (by show SG gb (.slice ln nn cn) _;exact sq)
  clear hK K
  refine Zx kq ?_ _
  (go_wp2;all_goals (refine bodyPost_end (v:=.tuple #[]) ?_ rfl ?_;(focus (simp[results,Tryz.results166]));exact⟨rfl,.inr (HCL.out har)⟩))
 obtain⟨ln,cn,hvn⟩:∃ad cn,vn=.slice ad nn cn:=XV HON.out
 subst hvn
 have hgw3:GW W1 gb mb nn stk (w2.alloc (.cells #[.int .i64 f,.int .i64 t] 286)):=HGW.out.same (HB2.out.alloc oq _)
 have hg3:(w2.alloc (.cells #[.int .i64 f,.int .i64 t] 286)).heap[gb]?=some (Xh (.slice ln nn cn) vo mb):=(Za _ _ _ oq).trans ((HB2.out.block _ hgl).trans HG.out)
 have KA:=hid (show SP w.heap.size f t (w2.alloc (.cells #[.int .i64 f,.int .i64 t] 286)) from ⟨by rw[←hs2];go_simp,by rw[←hs2];go_simp⟩)
 have hpg:¬w.heap.size=gb:=oq
 have hpb3:(w2.alloc (.cells #[.int .i64 f,.int .i64 t] 286)).heap[w.heap.size]?=some (.cells #[.int .i64 f,.int .i64 t] 286 (0,0)):=by rw[←hs2];exact Yt w2 _
 obtain⟨⟨q0,q1,q2⟩,qf⟩:=Xv hg3
 generalize w2.alloc (.cells #[.int .i64 f,.int .i64 t] 286)=w3 at *
 obtain⟨xs3,hon3,hnm3⟩:=(VC hgw3 hg3).1
 have HON3:=hid hon3
 obtain⟨i0,hi0,hi1,hi2,hi3⟩:=JR kG
 have HI:=hid (Zh hi0 (Zh hi1 (Zh hi2 hi3)))
 have hgl3:=Zb hg3
 have hlow3:=hgw3.low
 have HB:=hid (Zh hn (Zh hgl3 hlow3.size))
 have hft:=HFT.out
 clear hi0 hi1 hi2 hi3 p0 p1 p2 pf g0 g1 g2 gf hs2 d0 d4 hso HB2 HGW HM HKP HPT HOO HG HON
 have hcn:=zb HON3.out
 have hi1:(0:Int)≤(f:Int):=oq
 have hi2:(f:Int)≤(t:Int):=oq
 have hi3:(t:Int)≤(cn:Int):=oq
 have hi4:(0:Int)≤(t:Int):=oq
 have hi5:(f:Int)≤(cn:Int):=oq
 have HPF:=hid (fun(w4:World) (v':Value) hown hg hat=>yq (w4:=w4) (v':=v') hgw3 hg3 hon3 hnm3 hpb3 hft hown hg hat)
 have HN:=hid (vV hon3 hnm3 hft)
 clear hpb3 hnm3 hon3 hg3 hgw3 hft hlow3
 cases ln with
 | none =>
  simp only at HN
  refine ZN (S:=fun w'=>w'.cell? ⟨w.heap.size,0,none⟩=some (.int .i64 f)∧w'.cell? ⟨w.heap.size,1,none⟩=some (.int .i64 t)) kq (by(show SP w.heap.size f t _;repeat (first|with_reducible exact KA.out|with_reducible exact KC.out|with_reducible refine SP.drew ?_|with_reducible refine SP.alloc ?_ _|(with_reducible refine SP.set ?_ hpg _)))) (fun hHeld=>?_)
  refine tk 0 hHeld ?_
  refine tk 1 hHeld ?_
  refine tk 2 hHeld ?_
  refine tk 3 hHeld ?_
  refine tk 5 hHeld ?_
  refine tk 6 hHeld ?_
  refine tk 7 hHeld ?_
  refine tk 9 hHeld ?_
  refine tk 10 hHeld ?_
  refine tk 11 hHeld ?_
  refine tk 12 hHeld ?_
  refine rz 4 8 (fun K hK=>?_) fun K hK=>?_
  ·go_simp
   refine hK.out _ _ (fun hHeld=>?_) (by show SP w.heap.size f t _;exact sq)
   clear hK K
   refine ry 8 fun K hK=>?_
   go_simp
   refine hK.out _ _ (fun hHeld=>?_) (by show SP w.heap.size f t _;exact sq)
   clear hK K
   refine tk 13 hHeld ?_
   refine ry 14 fun K hK=>?_
   (refine XW _ (by rfl) _ _ _ (by rfl) W1.heap.size 92 i0 _ 6 72 Tryz.underlying90 HI.out.1 HI.out.2.1 HI.out.2.2.1 HI.out.2.2.2 rfl oq (.slice none nn cn) nn xs3 (by rfl) (HON3.out.drew) none (t-f) (cn-f) ((xs3.drop (f*6)).take ((t-f)*6)) (by rfl) HN.out.1 HN.out.2.1 HN.out.2.2 (by have:=HB.out.1;have:=HFT.out;unfold maxLen;omega) (by have:=HB.out.1;have:=HFT.out;omega) (by have:=HB.out.2.2;simp;omega) ?_;intro v' w4 hown4 hgrow4 hat4;obtain⟨lv,cv,rfl⟩:=XV hown4;have KP:=HPF.out w4 _ hown4 hgrow4 hat4;have KC:=hid (show SP w.heap.size f t w4 from KP.1);have kg1:=KP.2.1;have kgf:=KP.2.2.1;have HCL:=hid KP.2.2.2;clear KP hown4 hgrow4 hat4)
   refine hK.out _ _ (fun hHeld=>?_) (by show SP w.heap.size f t _;exact sq)
   clear hK K
   refine tk 15 hHeld ?_
   refine tk 16 hHeld ?_
   refine ry 17 fun K hK=>?_
   go_simp
   refine hK.out _ _ (fun hHeld=>?_) (by show SP w.heap.size f t _;exact sq)
   clear hK K
   refine Zx kq ?_ _
   (go_wp2;all_goals (refine Zl (v:=.tuple #[]) ?_ rfl ?_;(focus (simp[results,Tryz.results166]));exact⟨rfl,.inl ⟨_,by have:=HFT.out;omega,HCL.out⟩⟩))
  go_simp
  refine hK.out _ _ (fun hHeld=>?_) (by show SP w.heap.size f t _;exact sq)
  clear hK K
  refine tk 13 hHeld ?_
  refine ry 4 fun K hK=>?_
  go_simp
  refine hK.out _ _ (fun hHeld=>?_) (by show SP w.heap.size f t _;exact sq)
  clear hK K
  refine ry 14 fun K hK=>?_
  (refine XW _ (by rfl) _ _ _ (by rfl) W1.heap.size 92 i0 _ 6 72 Tryz.underlying90 HI.out.1 HI.out.2.1 HI.out.2.2.1 HI.out.2.2.2 rfl oq (.slice none nn cn) nn xs3 (by rfl) (HON3.out.drew) none (t-f) (cn-f) ((xs3.drop (f*6)).take ((t-f)*6)) (by rfl) HN.out.1 HN.out.2.1 HN.out.2.2 (by have:=HB.out.1;have:=HFT.out;unfold maxLen;omega) (by have:=HB.out.1;have:=HFT.out;omega) (by have:=HB.out.2.2;simp;omega) ?_;intro v' w4 hown4 hgrow4 hat4;obtain⟨lv,cv,rfl⟩:=XV hown4;have KP:=HPF.out w4 _ hown4 hgrow4 hat4;have KC:=hid (show SP w.heap.size f t w4 from KP.1);have kg1:=KP.2.1;have kgf:=KP.2.2.1;have HCL:=hid KP.2.2.2;clear KP hown4 hgrow4 hat4)
  refine hK.out _ _ (fun hHeld=>?_) (by show SP w.heap.size f t _;exact sq)
  clear hK K
  refine tk 15 hHeld ?_
  refine tk 16 hHeld ?_
  refine ry 17 fun K hK=>?_
  go_simp
  refine hK.out _ _ (fun hHeld=>?_) (by show SP w.heap.size f t _;exact sq)
  clear hK K
  refine Zx kq ?_ _
  (go_wp2;all_goals (refine Zl (v:=.tuple #[]) ?_ rfl ?_;(focus (simp[results,Tryz.results166]));exact⟨rfl,.inl ⟨_,by have:=HFT.out;omega,HCL.out⟩⟩))
 | some aln =>
  obtain⟨gn,rfl⟩:∃gn,aln=⟨gn,0,none⟩:=yI HON3.out
  simp only at HN
  refine ZN (S:=fun w'=>w'.cell? ⟨w.heap.size,0,none⟩=some (.int .i64 f)∧w'.cell? ⟨w.heap.size,1,none⟩=some (.int .i64 t)) kq (by(show SP w.heap.size f t _;repeat (first|with_reducible exact KA.out|with_reducible exact KC.out|with_reducible refine SP.drew ?_|with_reducible refine SP.alloc ?_ _|(with_reducible refine SP.set ?_ hpg _)))) (fun hHeld=>?_)
  refine tk 0 hHeld ?_
  refine tk 1 hHeld ?_
  refine tk 2 hHeld ?_
  refine tk 3 hHeld ?_
  refine tk 5 hHeld ?_
  refine tk 6 hHeld ?_
  refine tk 7 hHeld ?_
  refine tk 9 hHeld ?_
  refine tk 10 hHeld ?_
  refine tk 11 hHeld ?_
  refine tk 12 hHeld ?_
  refine rz 4 8 (fun K hK=>?_) fun K hK=>?_
  ·go_simp
   refine hK.out _ _ (fun hHeld=>?_) (by show SP w.heap.size f t _;exact sq)
   clear hK K
   refine ry 8 fun K hK=>?_
   go_simp
   refine hK.out _ _ (fun hHeld=>?_) (by show SP w.heap.size f t _;exact sq)
   clear hK K
   refine tk 13 hHeld ?_
   refine ry 14 fun K hK=>?_
   (refine XW _ (by rfl) _ _ _ (by rfl) W1.heap.size 92 i0 _ 6 72 Tryz.underlying90 HI.out.1 HI.out.2.1 HI.out.2.2.1 HI.out.2.2.2 rfl oq (.slice (some ⟨gn,0,none⟩) nn cn) nn xs3 (by rfl) (HON3.out.drew) (if cn=f then some ⟨gn,0,none⟩ else some ⟨gn,f*6,none⟩) (t-f) (cn-f) ((xs3.drop (f*6)).take ((t-f)*6)) (by rfl) HN.out.1 HN.out.2.1 HN.out.2.2 (by have:=HB.out.1;have:=HFT.out;unfold maxLen;omega) (by have:=HB.out.1;have:=HFT.out;omega) (by have:=HB.out.2.2;simp;omega) ?_;intro v' w4 hown4 hgrow4 hat4;obtain⟨lv,cv,rfl⟩:=XV hown4;have KP:=HPF.out w4 _ hown4 hgrow4 hat4;have KC:=hid (show SP w.heap.size f t w4 from KP.1);have kg1:=KP.2.1;have kgf:=KP.2.2.1;have HCL:=hid KP.2.2.2;clear KP hown4 hgrow4 hat4)
   refine hK.out _ _ (fun hHeld=>?_) (by show SP w.heap.size f t _;exact sq)
   clear hK K
   refine tk 15 hHeld ?_
   refine tk 16 hHeld ?_
   refine ry 17 fun K hK=>?_
   go_simp
   refine hK.out _ _ (fun hHeld=>?_) (by show SP w.heap.size f t _;exact sq)
   clear hK K
   refine Zx kq ?_ _
   (go_wp2;all_goals (refine Zl (v:=.tuple #[]) ?_ rfl ?_;(focus (simp[results,Tryz.results166]));exact⟨rfl,.inl ⟨_,by have:=HFT.out;omega,HCL.out⟩⟩))
  go_simp
  refine hK.out _ _ (fun hHeld=>?_) (by show SP w.heap.size f t _;exact sq)
  clear hK K
  refine tk 13 hHeld ?_
  refine ry 4 fun K hK=>?_
  go_simp
  refine hK.out _ _ (fun hHeld=>?_) (by show SP w.heap.size f t _;exact sq)
  clear hK K
  refine ry 14 fun K hK=>?_
  (refine XW _ (by rfl) _ _ _ (by rfl) W1.heap.size 92 i0 _ 6 72 Tryz.underlying90 HI.out.1 HI.out.2.1 HI.out.2.2.1 HI.out.2.2.2 rfl oq (.slice (some ⟨gn,0,none⟩) nn cn) nn xs3 (by rfl) (HON3.out.drew) (if cn=f then some ⟨gn,0,none⟩ else some ⟨gn,f*6,none⟩) (t-f) (cn-f) ((xs3.drop (f*6)).take ((t-f)*6)) (by rfl) HN.out.1 HN.out.2.1 HN.out.2.2 (by have:=HB.out.1;have:=HFT.out;unfold maxLen;omega) (by have:=HB.out.1;have:=HFT.out;omega) (by have:=HB.out.2.2;simp;omega) ?_;intro v' w4 hown4 hgrow4 hat4;obtain⟨lv,cv,rfl⟩:=XV hown4;have KP:=HPF.out w4 _ hown4 hgrow4 hat4;have KC:=hid (show SP w.heap.size f t w4 from KP.1);have kg1:=KP.2.1;have kgf:=KP.2.2.1;have HCL:=hid KP.2.2.2;clear KP hown4 hgrow4 hat4)
  refine hK.out _ _ (fun hHeld=>?_) (by show SP w.heap.size f t _;exact sq)
  clear hK K
  refine tk 15 hHeld ?_
  refine tk 16 hHeld ?_
  refine ry 17 fun K hK=>?_
  go_simp
  refine hK.out _ _ (fun hHeld=>?_) (by show SP w.heap.size f t _;exact sq)
  clear hK K
  refine Zx kq ?_ _
  (go_wp2;all_goals (refine Zl (v:=.tuple #[]) ?_ rfl ?_;(focus (simp[results,Tryz.results166]));exact⟨rfl,.inl ⟨_,by have:=HFT.out;omega,HCL.out⟩⟩))
end Go.Proofs.YtlhlcdjiafdoeaaGreatDoor.syn
