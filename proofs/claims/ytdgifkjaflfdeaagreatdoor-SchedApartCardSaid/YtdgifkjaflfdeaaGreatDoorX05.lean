/- Parts of the proof. -/
import Derived.Deep.AppendLies
import Derived.Deep.RegionHeld3
import Derived.Deep.Upon
import Derived.Test.YtdgifkjaflfdeaaGreatDoorX04
set_option linter.all false
set_option maxRecDepth 100000
set_option maxHeartbeats 16000000
namespace Go.Proofs.YtdgifkjaflfdeaaGreatDoor.syn
open Tryz
open Go.RowKit
variable {p n m t base gb mb nn j g gg cap c pb:Nat}{k d a:Int}{nm:ByteArray}{w w' W1 w4:World}{xs:List Value}{E M v' z vn vo y:Value}{P:Program}{ob:Obj}
def T3:Nat->Nat
 | 0=>3
 | 1=>4
 | 2=>5
 | p+3=>2*T3 p
theorem yA:∀p,T3 p+1<=T3 (p+1)
 | 0=>by decide
 | 1=>by decide
 | 2=>by decide
 | p+3=>by have:=yA p;show 2*T3 p+1<=2*T3 (p+1);omega
theorem Gy{p q:Nat}(h:p<=q):T3 p<=T3 q:=by
 induction h with
 | refl=>exact Zc _
 | step _ ih=>exact Zm ih (Nat.le_of_succ_le (yA _))
theorem ZfC(h:p<=101):T3 p<=60000000000:=Zm (Gy h) (by decide)
def PL.at:PL->Nat->Option PE
 | .nil,_=>none
 | .cons k nm n d args a _,0=>some ⟨k,nm,n,d,args,a⟩
 | .cons _ _ _ _ _ _ tl,i+1=>tl.at i
def PL.szFrom:PL->Nat->Nat
 | .nil,_=>0
 | .cons _ _ _ _ args _ tl,0=>args.sz+1+tl.sz
 | .cons _ _ _ _ _ _ tl,i+1=>tl.szFrom i
theorem PL.szFrom0:∀l:PL,l.szFrom 0=l.sz
 | .nil=>rfl
 | .cons _ _ _ _ _ _ _=>rfl
theorem PL.at_some:∀(l:PL)(i:Nat),i<l.len->∃e,l.at i=some e/\l.szFrom i=e.sz+l.szFrom (i+1)
 | .nil,i,h=>absurd h (Ym _)
 | .cons k nm n d args a tl,0,_=>⟨⟨k,nm,n,d,args,a⟩,rfl,by show args.sz+1+tl.sz=(args.sz+1)+tl.szFrom 0;rw[PL.szFrom0]⟩
 | .cons _ _ _ _ _ _ tl,i+1,h=>tl.at_some i (Nat.lt_of_succ_lt_succ h)
def Ar2:PL->Prop
 | .nil=>True
 | .cons _ _ _ _ args _ tl=>(args=.nil\/2<=args.len)/\Ar2 args/\Ar2 tl
def UC(e:PE):Prop:=(e.args=.nil\/2<=e.args.len)/\Ar2 e.args
theorem Ar2.at:∀(l:PL)(i:Nat)(e:PE),Ar2 l->l.at i=some e->UC e
 | .cons k nm n d args a tl,0,e,h,he=>by injection he with he;subst he;exact⟨h.1,h.2.1⟩
 | .cons _ _ _ _ _ _ tl,i+1,e,h,he=>Ar2.at tl i e h.2.2 he
theorem QO:∀l:PL,l.len<=l.sz
 | .nil=>Zc _
 | .cons _ _ _ _ args _ tl=>by have:=QO tl;simp only[PL.len,PL.sz];omega
theorem ZfX{l:PL}(h:l.len=0):l=.nil:=by cases l with|nil=>rfl|cons _ _ _ _ _ _ _=>simp[PL.len] at h
theorem UC.three{e:PE}(h:UC e)(f:e.args.len≠0):3<=e.sz:=by
 rcases h.1 with h|h
 .rw[h] at f;exact absurd rfl f
 have:=QO e.args;unfold PE.sz;omega
theorem ZbG{k n d:Int}{len:Nat}(h:bdE k n d nm len=true):len=0\/2<=len:=by
 unfold bdE at h;split at h
 .cases h
 split at h
 .simp at h;omega
 split at h
 .simp at h;omega
 split at h
 .cases h
 split at h
 .simp at h;omega
 split at h
 .simp at h;omega
 cases h
theorem yL:∀l:PL,bdR l=true->Ar2 l
 | .nil,_=>trivial
 | .cons k nm n d args a tl,h=>by
  rw[bdR,ZC,ZC] at h;refine⟨?_,yL args h.1.1,yL tl h.2⟩;rcases ZbG h.1.2 with h|h
  .exact .inl (ZfX h)
  exact .inr h
theorem eX{e:PE}(h:Ud e=true):UC e:=by
 unfold Ud at h;rw[ZC] at h;refine⟨?_,yL _ h.1⟩;rcases ZbG h.2 with h|h
 .exact .inl (ZfX h)
 exact .inr h
structure JC (W:World) (b o:Nat) (e:PE):Prop where
 lt:b<W.1.size
 fz:W.frozen? ⟨b,o,none⟩=false
 c0:W.cell? ⟨b,o,none⟩=some (.int .i64 e.k)
 c1:W.cell? ⟨b,o+1,none⟩=some (.string e.nm)
 c2:W.cell? ⟨b,o+2,none⟩=some (.int .i64 e.n)
 c3:W.cell? ⟨b,o+3,none⟩=some (.int .i64 e.d)
 c5:W.cell? ⟨b,o+5,none⟩=some (.int .i64 e.a)
 c4:∃ad cap,W.cell? ⟨b,o+4,none⟩=some (.slice ad e.args.len cap)/\(e.args=.nil\/∃b' o',ad=some ⟨b',o',none⟩/\b'<W.1.size/\AC W e.args b' o'/\NF W e.args b' o')
 len:e.args.len<=9223372036854775807
theorem JC.ptr{W w:World}{b o:Nat}{e:PE}(h:JC W b o e)(hb:Below W.1.size W w):Qe w (.pointer (some ⟨b,o,none⟩)):=by
 have f:=h.c0;unfold World.cell? at f
 cases hh:W.1[b]? with
 | none=>simp[hh] at f
 | some ob =>
  cases ob with
  | cells cs t fr=>exact⟨b,o,cs,t,fr,rfl,(hb.block b h.lt).trans hh,(hb.frozen (p:=⟨b,o,none⟩) h.lt).trans h.fz⟩
  | _=>simp[hh] at f
theorem JC.child:∀(l:PL){W:World}{b o:Nat},b<W.1.size->AC W l b o->NF W l b o->∀i e,l.at i=some e->JC W b (o+i*6) e
 | .cons k nm n d args a tl,W,b,o,hlt,hac,hnf,0,e,he=>by
  injection he with he
  subst he;obtain⟨h0,h1,h2,h3,h5,hn,⟨ad,cap,h4,hcap,hm,hd⟩,ht⟩:=hac;rw[Nat.zero_mul,Nat.add_zero];refine⟨hlt,hnf.1,h0,h1,h2,h3,h5,⟨ad,cap,h4,?_⟩,Zm hcap hm⟩;rcases hd with hd|⟨b',o',rfl,hb',hd⟩
  .exact .inl hd
  exact .inr ⟨b',o',rfl,hb',hd,hnf.2.1 b' o' cap h4⟩
 | .cons _ _ _ _ _ _ tl,W,b,o,hlt,hac,hnf,i+1,e,he=>by
  have:=JC.child tl hlt hac.2.2.2.2.2.2.2 hnf.2.2 i e he;rw[show o+(i+1)*6=o+6+i*6 by omega];exact this
structure SE where
 b:Nat
 o:Nat
 next:Nat
 fr:Nat
 e:PE
def SE.v(s:SE):List Value:=[.pointer (some ⟨s.b,s.o,none⟩),.int .i64 s.next,.int .i64 s.fr]
def UB(stk:List SE):List Value:=stk.flatMap SE.v
def Ja:List SE->Nat
 | []=>0
 | s::l=>s.e.args.szFrom s.next+Ja l
theorem JM(a b:List SE):Ja (a++b)=Ja a+Ja b:=by
 induction a with
 | nil=>simp[Ja]
 | cons s l ih=>simp only[ZD,Ja,ih];omega
theorem Q6(a b:List SE):UB (a++b)=UB a++UB b:=by simp[UB]
theorem Jy:∀l:List SE,(UB l).length=l.length*3:=by
 intro l
 induction l with
 | nil=>rfl
 | cons s l ih=>show(s.v++UB l).length=_;rw[Zy,ih,Zp];show 3+_=_;omega
def PcV(nn:Nat)(v:Value):Prop:=∃f t:Nat,v=.agg #[.int .i64 f,.int .i64 t]/\f<=t/\t<=nn
theorem PcV.mono(h:n<=m){v:Value}(j:PcV n v):PcV m v:=by obtain⟨f,t,rfl,g,q⟩:=j;exact⟨f,t,rfl,g,oq⟩
def NmR(xs:List Value)(nn:Nat):Prop:=(∀u∈xs,u.oneCell'=true)/\∀j,j<nn->∃(k:Int)(nm:ByteArray)(n d a:Int),xs[j*6]?=some (.int .i64 k)/\xs[j*6+1]?=some (.string nm)/\xs[j*6+2]?=some (.int .i64 n)/\xs[j*6+3]?=some (.int .i64 d) /\
 xs[j*6+4]?=some (.slice none 0 0)/\xs[j*6+5]?=some (.int .i64 a)
def GY(W1:World)(v:Value):Prop:=∃b o e,v=.pointer (some ⟨b,o,none⟩)/\JC W1 b o e
theorem GY.ptr{W1 w:World}(hb:Below W1.1.size W1 w)(v:Value)(h:GY W1 v):Qe w v:=by obtain⟨b,o,e,rfl,h⟩:=h;exact h.ptr hb
def XH(vn vo:Value)(mb:Nat):Obj:=.cells #[vn,vo,.map (some mb)] 389 (0,0)
structure GW (W1:World) (gb mb nn:Nat) (stk:List SE) (w:World):Prop where
 low:Below W1.1.size W1 w
 hgb:W1.1.size<=gb
 hmb:W1.1.size<=mb
 sta:∃vn vo xs,w.1[gb]?=some (XH vn vo mb)/\w.ownsRow W1.1.size 111 6 vn nn xs/\NmR xs nn/\w.ownsRow W1.1.size 401 3 vo stk.length (UB stk)
 map:Vv w mb (GY W1) (PcV nn)
 stk:∀s∈stk,JC W1 s.b s.o s.e/\s.next<=s.e.args.len/\s.fr<=nn/\UC s.e
theorem NmR.nil:NmR [] 0:=⟨fun u h=>(by cases h),fun j h=>absurd h (Ym _)⟩
theorem NmR.snoc{xs f:List Value}(D:xs.length=n*6)(h:NmR xs n)(k:NmR f m):NmR (xs++f) (n+m):=by
 refine⟨fun u hu=>?_,fun j hj=>?_⟩
 .rcases List.mem_append.1 hu with hu|hu
  .exact h.1 u hu
  exact k.1 u hu
 by_cases g:j<n
 .obtain⟨k,q,a,b,c,v,x,y,z,A,C⟩:=h.2 j g;refine⟨k,q,a,b,c,?_,?_,?_,?_,?_,?_⟩
  all_goals (rw[List.getElem?_append_left oq];assumption)
 obtain⟨k,q,a,b,c,v,x,y,z,A,C⟩:=k.2 (j-n) oq;have e:∀i,i<6->(xs++f)[j*6+i]?=f[(j-n)*6+i]?:=fun i hi=>by rw[List.getElem?_append_right oq];congr 1;omega
 exact⟨k,q,a,b,c,(e 0 oq).trans v,(e 1 oq).trans x,(e 2 oq).trans y,(e 3 oq).trans z,(e 4 oq).trans A,(e 5 oq).trans C⟩
theorem NmR.part{n f t:Nat}(D:xs.length=n*6)(h:NmR xs n)(z:f<=t)(A:t<=n):NmR ((xs.drop (f*6)).take ((t-f)*6)) (t-f):=by
 refine⟨fun u hu=>h.1 u (List.mem_of_mem_drop (List.mem_of_mem_take hu)),fun j hj=>?_⟩;obtain⟨k,C,a,b,c,g,m,q,v,x,y⟩:=h.2 (f+j) oq;have e:∀i,i<6->((xs.drop (f*6)).take ((t-f)*6))[j*6+i]?=xs[(f+j)*6+i]?:=fun i hi=>by rw[Yp oq,List.getElem?_drop];congr 1;omega
 exact⟨k,C,a,b,c,(e 0 oq).trans g,(e 1 oq).trans m,(e 2 oq).trans q,(e 3 oq).trans v,(e 4 oq).trans x,(e 5 oq).trans y⟩
structure Chg (S:Nat->Prop) (w w':World):Prop where
 os:w'.os=w.os
 tape:w'.tape=w.tape
 output:w'.output=w.output
 size:w.1.size<=w'.1.size
 block:∀k,k<w.1.size->¬S k->w'.1[k]?=w.1[k]?
theorem Us{e:TypeId}{size:Nat}{v:Value}(h:w.ownsRow base e size v n xs){b:Nat}(hb:∀cur,w.1[b]?≠some (.cells cur e (0,0))):v.ownBlock≠some b:=by
 intro f;rcases h.2 with ⟨h1,_⟩|⟨g,cap,cur,h1,_,hg,_⟩
 .rw[h1] at f;cases f
 rw[h1] at f;injection f with f
 have f:g=b:=f;subst f;exact hb cur hg
theorem Xi{e:TypeId}{size:Nat}{v:Value}(h:w.ownsRow base e size v n xs)(hb:∀k,v.ownBlock=some k->w'.1[k]?=w.1[k]?):w'.ownsRow base e size v n xs:=by
 refine⟨h.1,?_⟩;rcases h.2 with h1|⟨g,cap,cur,h1,h2,hg,h3⟩
 .exact .inl h1
 exact .inr ⟨g,cap,cur,h1,h2,(hb g (by rw[h1];rfl)).trans hg,h3⟩
theorem GW.names{D:List SE}(h:GW W1 gb mb nn D w){xs xs':List Value}(q:w.1[gb]?=some (XH E M mb))(x:w.ownsRow W1.1.size 111 6 E nn xs)
  (m:Chg (fun k=>k=gb\/E.ownBlock=some k) w w')(F:w'.1[gb]?=some (XH v' M mb))(C:w'.ownsRow W1.1.size 111 6 v' j xs')(L:NmR xs' j)(A:nn<=j):GW W1 gb mb j D w':=by
 obtain⟨Y,Z,aa,z,T,R,f⟩:=h.sta;have e:=q.symm.trans z;simp only[XH,Option.some.injEq,Obj.cells.injEq,Array.mk.injEq,List.cons.injEq,and_true,true_and] at e;obtain⟨rfl,rfl⟩:=e;have I:=h.map.lt;have O:=h.low.size;have J:¬(mb=gb\/E.ownBlock=some mb):=by
  obtain⟨arr,clock,H,_⟩:=h.map;rintro (e|e)
  .rw[e,q] at H;cases H
  exact Us x (b:=mb) (fun cur e2=>by rw[H] at e2;cases e2) e
 refine⟨⟨m.os.trans h.low.os,m.tape.trans h.low.tape,m.output.trans h.low.output,Zm h.low.size m.size,fun k hk=>?_⟩,h.hgb,h.hmb,⟨v',M,xs',F,C,L,?_⟩,h.map.keep (m.block mb I J) (fun v hv=>hv.mono A),fun s hs=>?_⟩
 .have G:¬(k=gb\/E.ownBlock=some k):=by
   have:=h.hgb;rintro (e|e)
   .omega
   have:=(x.lt k e).1;omega
  exact(m.block k oq G).trans (h.low.block k hk)
 .refine Xi f fun k hk=>m.block k (f.lt k hk).2 ?_
  rintro (e|e)
  .rw[e] at hk;exact Us f (b:=gb) (fun cur e2=>by rw[q] at e2;injection e2 with e2;injection e2 with _ e2 _;exact absurd e2 (by decide)) hk
  rcases x.2 with ⟨y,_⟩|⟨g,cap,cur,y,_,hg,_⟩
  .rw[y] at e;cases e
  rw[y] at e;injection e with e
  have e:g=k:=e;subst e;exact Us f (b:=g) (fun cur2 e2=>by rw[hg] at e2;injection e2 with e2;injection e2 with _ e2 _;exact absurd e2 (by decide)) hk
 obtain⟨y,U,V,X⟩:=h.stk s hs;exact⟨y,U,Zm V A,X⟩
theorem XZ{b:Nat}{f g j:Value}{t:TypeId}(h:w.1[b]?=some (.cells #[f,g,j] t (0,0))) :
  (w.cell? ⟨b,0,none⟩=some f/\w.cell? ⟨b,1,none⟩=some g/\w.cell? ⟨b,2,none⟩=some j)/\∀o,w.frozen? ⟨b,o,none⟩=false:=by
 refine⟨⟨?_,?_,?_⟩,?_⟩
 all_goals first|(intro o;simp[World.frozen?,h])|simp[World.cell?,h]
theorem VF{e:TypeId}{n b:Nat}(h:(P.info? e).map (fun i=>(i.zero,i.size,i.bytes))=some (some z,n,b)):∃i,P.info? e=some i/\i.zero=some z/\i.size=n/\i.bytes=b:=by
 cases hi:P.info? e with
 | none=>rw[hi] at h;cases h
 | some i=>rw[hi] at h;simp at h;exact⟨i,rfl,h.1,h.2.1,h.2.2⟩
theorem Zcj:(prog.info? 111).map (fun i=>(i.zero,i.size,i.bytes))=some (some (.agg #[.int .i64 0,.string ⟨#[]⟩,.int .i64 0,.int .i64 0,.slice none 0 0,.int .i64 0]),6,72):=by kernel_rfl
theorem ZfT:(prog.info? 401).map (fun i=>(i.zero,i.size,i.bytes))=some (some (.agg #[.pointer none,.int .i64 0,.int .i64 0]),3,24):=by kernel_rfl
theorem ZeC{e:TypeId}{size:Nat}{v:Value}(h:w.ownsRow base e size v n xs){b:Nat}(hb:b<base):some b≠v.ownBlock:=by
 intro e;have:=(h.lt b e.symm).1;omega
theorem XL{e t:TypeId}{size:Nat}{v:Value}(h:w.ownsRow base e size v n xs){b:Nat}{j:Array Value}{m:Nat × Nat}(hb:w.1[b]?=some (.cells j t m))(ht:t≠e):some b≠v.ownBlock:=by
 intro f;rcases h.2 with ⟨h1,_⟩|⟨g,cap,cur,h1,_,hg,_⟩
 .rw[h1] at f;cases f
 rw[h1] at f;injection f with f
 have f:b=g:=f;subst f;rw[hb] at hg;injection hg with hg
 injection hg with _ hg _
 exact ht hg
def zEx:List Value:=[.int .i64 0,.string ⟨#[]⟩,.int .i64 0,.int .i64 0,.slice none 0 0,.int .i64 0]
structure Zhn (w w4:World) (gb b o gg nn:Nat) (vn:Value) (k:Int) (nm:ByteArray) (n d a:Int):Prop where
 ne:(gg≠gb/\gg≠b)/\¬gb=gg/\¬b=gg
 c0:w4.cell? ⟨b,o,none⟩=some (.int .i64 k)
 c1:w4.cell? ⟨b,o+1,none⟩=some (.string nm)
 c2:w4.cell? ⟨b,o+2,none⟩=some (.int .i64 n)
 c3:w4.cell? ⟨b,o+3,none⟩=some (.int .i64 d)
 c5:w4.cell? ⟨b,o+5,none⟩=some (.int .i64 a)
 g0:w4.cell? ⟨gb,0,none⟩=some vn
 gf:w4.frozen? ⟨gb,0,none⟩=false
 f:w4.frozen? ⟨gg,nn*6,none⟩=false/\w4.frozen? ⟨gg,nn*6+1,none⟩=false/\w4.frozen? ⟨gg,nn*6+2,none⟩=false/\w4.frozen? ⟨gg,nn*6+3,none⟩=false/\w4.frozen? ⟨gg,nn*6+4,none⟩=false/\w4.frozen? ⟨gg,nn*6+5,none⟩=false
 q:w4.cell? ⟨gg,nn*6,none⟩=some (.int .i64 0)/\w4.cell? ⟨gg,nn*6+1,none⟩=some (.string ⟨#[]⟩)/\w4.cell? ⟨gg,nn*6+2,none⟩=some (.int .i64 0)/\w4.cell? ⟨gg,nn*6+3,none⟩=some (.int .i64 0)/\w4.cell? ⟨gg,nn*6+4,none⟩=some (.slice none 0 0)/\w4.cell? ⟨gg,nn*6+5,none⟩=some (.int .i64 0)
theorem ZaI{base gb b o nn gg cap:Nat}{m T R:Value}{k n d a:Int}(hb:w.1[gb]?=some (.cells #[m,T,R] 389 (0,0)))(f:w.ownsRow base 111 6 m nn xs)(E:b<base)(D:base<=w.1.size)
  (I:w.cell? ⟨b,o,none⟩=some (.int .i64 k))(J:w.cell? ⟨b,o+1,none⟩=some (.string nm))(L:w.cell? ⟨b,o+2,none⟩=some (.int .i64 n))(M:w.cell? ⟨b,o+3,none⟩=some (.int .i64 d))(O:w.cell? ⟨b,o+5,none⟩=some (.int .i64 a))
  (g:w4.ownsRow base 111 6 (.slice (some ⟨gg,0,none⟩) (nn+1) cap) (nn+1) (xs++zEx))(F:((w.drew).alloc ob).grownBy w4 m.ownBlock)(z:m.ownBlock=some gg\/gg=w.1.size+1):Zhn w w4 gb b o gg nn m k nm n d a:=by
 have A:=Zb hb;have C:=XL f hb (by decide);have q:=ZeC f E;have G:gg≠gb:=by
  intro e;rcases z with h|h
  .rw[e] at h;exact C h.symm
  omega
 have H:gg≠b:=by
  intro e;rcases z with h|h
  .rw[e] at h;exact q h.symm
  omega
 obtain⟨⟨U,Y,Z⟩,V⟩:=XZ hb;have x:∀(bb oo:Nat),bb<w.1.size->some bb≠m.ownBlock->w4.cell? ⟨bb,oo,none⟩=w.cell? ⟨bb,oo,none⟩:=fun bb oo h1 h2=>(F.cell_far ⟨bb,oo,none⟩ (by simp;omega) h2).trans ((Zg w.1.size w).drew.alloc (by exact Zc _) ob |>.cell (p:=⟨bb,oo,none⟩) h1)
 have kf:∀(bb oo:Nat),bb<w.1.size->some bb≠m.ownBlock->w4.frozen? ⟨bb,oo,none⟩=w.frozen? ⟨bb,oo,none⟩:=fun bb oo h1 h2=>(F.frozen_far ⟨bb,oo,none⟩ (by simp;omega) h2).trans ((Zg w.1.size w).drew.alloc (by exact Zc _) ob |>.frozen (p:=⟨bb,oo,none⟩) h1)
 have v:=fun j=>g.frozenAt j
 have y:∀j,j<6->w4.cell? ⟨gg,nn*6+j,none⟩=zEx[j]?:=by
  intro j X;rw[g.cellAt _ oq,List.getElem?_append_right (by rw[f.1];omega),f.1,Nat.add_sub_cancel_left]
 refine⟨⟨⟨G,H⟩,fun e=>G e.symm,fun e=>H e.symm⟩,(x b _ oq q).trans I,(x b _ oq q).trans J,(x b _ oq q).trans L,(x b _ oq q).trans M,(x b _ oq q).trans O,(x gb _ A C).trans U,(kf gb _ A C).trans (V 0),⟨v _,v _,v _,v _,v _,v _⟩,⟨y 0 oq,y 1 oq,y 2 oq,y 3 oq,y 4 oq,y 5 oq⟩⟩
def s6(w:World)(g o:Nat)(v0 v1 v2 v3 v4 v5:Value):World:=(((((w.setCell ⟨g,o,none⟩ v0).setCell ⟨g,o+1,none⟩ v1).setCell ⟨g,o+2,none⟩ v2).setCell ⟨g,o+3,none⟩ v3).setCell ⟨g,o+4,none⟩ v4).setCell ⟨g,o+5,none⟩ v5
theorem Zdj{e:TypeId}{size g n cap:Nat}{ys:List Value}(h:w.ownsRow base e size (.slice (some ⟨g,0,none⟩) n cap) n ys)(o:Nat)(v0 v1 v2 v3 v4 v5:Value) :
  (s6 w g o v0 v1 v2 v3 v4 v5).ownsRow base e size (.slice (some ⟨g,0,none⟩) n cap) n ((((((ys.set o v0).set (o+1) v1).set (o+2) v2).set (o+3) v3).set (o+4) v4).set (o+5) v5) :=
 (((((((h.stored o v0).1).stored (o+1) v1).1.stored (o+2) v2).1.stored (o+3) v3).1.stored (o+4) v4).1.stored (o+5) v5).1
theorem GN(w:World)(g o:Nat)(m q x y z A:Value)(k:Nat)(f:k≠g):(s6 w g o m q x y z A).1[k]?=w.1[k]?:=by
 have j:∀(w:World)(o:Nat)(v:Value),(w.setCell ⟨g,o,none⟩ v).1[k]?=w.1[k]?:=fun w o v=>heap_setCell_other w ⟨g,o,none⟩ k v f
 unfold s6;simp only[j]
theorem Xo(w:World)(a:Addr)(v:Value):(w.setCell a v).os=w.os/\(w.setCell a v).tape=w.tape/\(w.setCell a v).output=w.output:=⟨rfl,rfl,rfl⟩
theorem J9(w:World)(g o:Nat)(f j m q v x:Value):(s6 w g o f j m q v x).os=w.os/\(s6 w g o f j m q v x).tape=w.tape/\(s6 w g o f j m q v x).output=w.output:=by
 unfold s6;simp only[Xo,and_self]
theorem gY(w:World)(g o:Nat)(f j m q v x:Value):(s6 w g o f j m q v x).1.size=w.1.size:=by simp[s6,World.setCell]
theorem Zhf(G:xs.length=n*6)(z A C D E F g j m q x y:Value) :
  ((((((xs++[z,A,C,D,E,F]).set (n*6) g).set (n*6+1) j).set (n*6+2) m).set (n*6+3) q).set (n*6+4) x).set (n*6+5) y=xs++[g,j,m,q,x,y]:=by
 have e:∀(i:Nat)(l:List Value)(v:Value),(xs++l).set (n*6+i) v=xs++l.set i v:=fun i l v=>by rw[List.set_append_right _ _ oq];congr 2;omega
 have f:=e 0;simp only[Nat.add_zero] at f;rw[f,e,e,e,e,e];rfl
theorem ui(h:w.1[gb]?=some (XH vn vo mb))(v':Value):(w.setCell ⟨gb,0,none⟩ v').1[gb]?=some (XH v' vo mb) :=
 Zj w gb 0 _ _ v' h
theorem gH(h:w.1[gb]?=some (XH vn vo mb))(v':Value):(w.setCell ⟨gb,1,none⟩ v').1[gb]?=some (XH vn v' mb) :=
 Zj w gb 1 _ _ v' h
theorem gR{n d a:Int}:NmR [.int .i64 k,.string nm,.int .i64 n,.int .i64 d,.slice none 0 0,.int .i64 a] 1 :=
 ⟨by simp[Value.oneCell'],fun j hj=>by obtain rfl:j=0:=oq;exact⟨k,nm,n,d,a,rfl,rfl,rfl,rfl,rfl,rfl⟩⟩
theorem ZaH{D:List SE}(h:GW W1 gb mb nn D w)(m:w.1[gb]?=some (XH E M mb))(f:w.ownsRow W1.1.size 111 6 E nn xs)(G:NmR xs nn)
  (z:w4.ownsRow W1.1.size 111 6 (.slice (some ⟨gg,0,none⟩) (nn+1) cap) (nn+1) (xs++zEx))(x:((w.drew).alloc ob).grownBy w4 E.ownBlock)(J:E.ownBlock=some gg\/gg=w.1.size+1)(v:gg≠gb)(k:Int)(nm:ByteArray)(n d a:Int) :
  GW W1 gb mb (nn+1) D ((s6 w4 gg (nn*6) (.int .i64 k) (.string nm) (.int .i64 n) (.int .i64 d) (.slice none 0 0) (.int .i64 a)).setCell ⟨gb,0,none⟩ (.slice (some ⟨gg,0,none⟩) (nn+1) cap)) /\
  GW W1 gb mb (nn+1) D (s6 (w4.setCell ⟨gb,0,none⟩ (.slice (some ⟨gg,0,none⟩) (nn+1) cap)) gg (nn*6) (.int .i64 k) (.string nm) (.int .i64 n) (.int .i64 d) (.slice none 0 0) (.int .i64 a)):=by
 have L:=Zb m;have O:=XL f m (by decide);have I:∀j,j<w.1.size->((w.drew).alloc ob).1[j]?=w.1[j]?:=fun j g=>Za w.drew ob j g
 have A:∀j,j<w.1.size->E.ownBlock≠some j->w4.1[j]?=w.1[j]?:=fun j g q=>(x.block j (by simp;omega) (fun e=>q e.symm)).trans (I j g)
 have y:w4.1[gb]?=some (XH E M mb):=(A gb L (fun e=>O e.symm)).trans m;have H:w.1.size<=w4.1.size:=by have:=x.size;simp at this;omega
 have F:∀j,j<w.1.size->¬(j=gb\/E.ownBlock=some j)->j≠gg:=by
  intro j g q e;rcases J with h1|h1
  .exact q (.inr (by rw[e];exact h1))
  omega
 refine⟨h.names m f ⟨?_,?_,?_,?_,fun j g q=>?_⟩ (ui ((GN w4 gg _ _ _ _ _ _ _ gb (fun e=>v e.symm)).trans y) _) (xs':=xs++[.int .i64 k,.string nm,.int .i64 n,.int .i64 d,.slice none 0 0,.int .i64 a]) ?_ (G.snoc f.1 gR) oq,
  h.names m f ⟨?_,?_,?_,?_,fun j g q=>?_⟩ ((GN _ gg _ _ _ _ _ _ _ gb (fun e=>v e.symm)).trans (ui y _)) (xs':=xs++[.int .i64 k,.string nm,.int .i64 n,.int .i64 d,.slice none 0 0,.int .i64 a]) ?_ (G.snoc f.1 gR) oq⟩
 .exact((Xo _ _ _).1.trans (J9 _ _ _ _ _ _ _ _ _).1).trans x.os
 .exact((Xo _ _ _).2.1.trans (J9 _ _ _ _ _ _ _ _ _).2.1).trans x.tape
 .exact((Xo _ _ _).2.2.trans (J9 _ _ _ _ _ _ _ _ _).2.2).trans x.output
 .rw[show((s6 w4 gg (nn*6) (.int .i64 k) (.string nm) (.int .i64 n) (.int .i64 d) (.slice none 0 0) (.int .i64 a)).setCell ⟨gb,0,none⟩ (.slice (some ⟨gg,0,none⟩) (nn+1) cap)).1.size=w4.1.size by rw[<-gY w4 gg (nn*6) (.int .i64 k) (.string nm) (.int .i64 n) (.int .i64 d) (.slice none 0 0) (.int .i64 a)];simp[World.setCell]];exact H
 .rw[heap_setCell_other _ _ _ _ (show j≠gb from fun e=>q (.inl e)),GN _ _ _ _ _ _ _ _ _ _ (F j g q)];exact A j g (fun e=>q (.inr e))
 .have:=Zdj z (nn*6) (.int .i64 k) (.string nm) (.int .i64 n) (.int .i64 d) (.slice none 0 0) (.int .i64 a);rw[zEx,Zhf f.1] at this;exact Xi this fun j g=>heap_setCell_other _ _ _ _ (fun e=>v (by have:some gg=some j:=g;injection this with this;rw[this];exact e))
 .exact((J9 _ _ _ _ _ _ _ _ _).1.trans (Xo _ _ _).1).trans x.os
 .exact((J9 _ _ _ _ _ _ _ _ _).2.1.trans (Xo _ _ _).2.1).trans x.tape
 .exact((J9 _ _ _ _ _ _ _ _ _).2.2.trans (Xo _ _ _).2.2).trans x.output
 .rw[gY];simpa [World.setCell] using H
 .rw[GN _ _ _ _ _ _ _ _ _ _ (F j g q),heap_setCell_other _ _ _ _ (show j≠gb from fun e=>q (.inl e))];exact A j g (fun e=>q (.inr e))
 have C:(w4.setCell ⟨gb,0,none⟩ (.slice (some ⟨gg,0,none⟩) (nn+1) cap)).ownsRow W1.1.size 111 6 (.slice (some ⟨gg,0,none⟩) (nn+1) cap) (nn+1) (xs++zEx) :=
  Xi z fun j g=>heap_setCell_other _ _ _ _ (fun e=>v (by have:some gg=some j:=g;injection this with this;rw[this];exact e))
 have:=Zdj C (nn*6) (.int .i64 k) (.string nm) (.int .i64 n) (.int .i64 d) (.slice none 0 0) (.int .i64 a);rw[zEx,Zhf f.1] at this;exact this
def X2(b o:Nat)(k:Int)(nm:ByteArray)(n d a:Int)(w':World):Prop:=w'.cell? ⟨b,o,none⟩=some (.int .i64 k)/\w'.cell? ⟨b,o+1,none⟩=some (.string nm)/\w'.cell? ⟨b,o+2,none⟩=some (.int .i64 n)/\w'.cell? ⟨b,o+3,none⟩=some (.int .i64 d)/\w'.cell? ⟨b,o+5,none⟩=some (.int .i64 a)
theorem X2.set{b o:Nat}{n d a:Int}(h:X2 b o k nm n d a w')(m:¬b=g)(u:Value):X2 b o k nm n d a (w'.setCell ⟨g,j,none⟩ u):=by
 have f:∀o,(w'.setCell ⟨g,j,none⟩ u).cell? ⟨b,o,none⟩=w'.cell? ⟨b,o,none⟩:=fun o=>ZH _ _ _ _ (fun e=>m e.symm)
 exact⟨(f _).trans h.1,(f _).trans h.2.1,(f _).trans h.2.2.1,(f _).trans h.2.2.2.1,(f _).trans h.2.2.2.2⟩
theorem X2.drew{b o:Nat}{n d a:Int}(h:X2 b o k nm n d a w'):X2 b o k nm n d a w'.drew:=h
theorem X2.alloc{b o:Nat}{k:Int}{nm:ByteArray}{n d a:Int}{w':World}(h:X2 b o k nm n d a w')(ob:Obj):X2 b o k nm n d a (w'.alloc ob):=by
 have hb:b<w'.1.size:=World.block_lt_of_cell? w' ⟨b,o,none⟩ h.1;have f:∀o,(w'.alloc ob).cell? ⟨b,o,none⟩=w'.cell? ⟨b,o,none⟩:=fun o=>World.cell?_alloc_lt _ _ _ hb
 exact⟨(f _).trans h.1,(f _).trans h.2.1,(f _).trans h.2.2.1,(f _).trans h.2.2.2.1,(f _).trans h.2.2.2.2⟩
theorem ZcE{ae:List SE}(h:GW W1 gb mb nn ae w){b o:Nat}{e:PE}(he:JC W1 b o e)(hk:e.k=11)(hn:nn<=60000000000) :
  Calls prog 261 #[.pointer (some ⟨gb,0,none⟩),.pointer (some ⟨b,o,none⟩)] w fun x w'=>x=.returned (.tuple #[])/\GW W1 gb mb (nn+1) ae w':=by
 obtain⟨vn,vo,xs,D,I,O,ab⟩:=h.sta;have HL:=hid h.low;have HM:=hid h.map;have ap:=h.hgb;have aq:=h.hmb;have HS:=hid h.stk;have T:=hid I;have an:=hid O;have ao:=hid ab;have HG:=hid D;obtain⟨⟨g0,g1,g2⟩,gf⟩:=XZ D;obtain⟨k,E,n,d,args,a⟩:=e;obtain⟨M,af,c0,c1,c2,c3,c5,⟨ad,cap,c4,_⟩,_⟩:=he;simp only at hk c0 c1 c2 c3 c5 c4;subst hk;have R:=fun o=>h.low.cell (p:=⟨b,o,none⟩) M
 have d0:=(R o).trans c0;have d1:=(R (o+1)).trans c1;have d2:=(R (o+2)).trans c2;have d3:=(R (o+3)).trans c3;have d5:=(R (o+5)).trans c5;have ac:=h.low.size;have ag:=Zb D;obtain⟨i0,V,X,Y,Z⟩:=VF Zcj;have L:=hid (Zh V (Zh X (Zh Y Z)));obtain⟨ln,cn,ai⟩:∃ad cn,vn=.slice ad nn cn:=by
  rcases I.2 with ⟨h1,h2⟩|⟨g,cap,cur,h1,_⟩
  .exact⟨none,0,by rw[h1,h2]⟩
  exact⟨_,cap,h1⟩
 subst ai;have U:=hid (fun(w4:World) (gg cap:Nat) hown hg hat=>ZaI (w4:=w4) (gg:=gg) (cap:=cap) (ob:=.cells #[.int .i64 0,.string ⟨#[]⟩,.int .i64 0,.int .i64 0,.slice none 0 0,.int .i64 0] 111) D I M ac d0 d1 d2 d3 d5 hown hg hat);have J:=hid (fun(w4:World) (gg cap:Nat) hown hg hat G=>ZaH (w4:=w4) (gg:=gg) (cap:=cap) (ob:=.cells #[.int .i64 0,.string ⟨#[]⟩,.int .i64 0,.int .i64 0,.slice none 0 0,.int .i64 0] 111) h D I O hown hg hat G 11 E n d a);clear h V X Y Z R c0 c1 c2 c3 c4 c5 I O ab D af;have al:(0:Int)<=(nn:Int):=oq;have am:(nn:Int)<(nn:Int)+1:=oq;have HB:=hid (Zh hn (Zh ag (Zh M ac)));clear hn;go_enter func261,ntmps261;go_wp2;have KA:=hid (show X2 b o 11 E n d a w from ⟨d0,d1,d2,d3,d5⟩);have hbgb:¬b=gb:=oq;clear d0 d1 d2 d3 d5;refine ZP (S:=fun w'=>w'.cell? ⟨b,o,none⟩=some (.int .i64 11)/\w'.cell? ⟨b,o+1,none⟩=some (.string E)/\w'.cell? ⟨b,o+2,none⟩=some (.int .i64 n)/\w'.cell? ⟨b,o+3,none⟩=some (.int .i64 d)/\w'.cell? ⟨b,o+5,none⟩=some (.int .i64 a)) kq (by(show X2 b o 11 E n d a _;repeat (first|with_reducible exact KA.o|with_reducible exact KC.o|with_reducible refine X2.drew ?_|with_reducible refine X2.alloc ?_ _|(with_reducible refine X2.set ?_ hbn _)|(with_reducible refine X2.set ?_ hbgb _)))) (fun hH=>?_);refine tk 0 (by assumption) ?_;refine tk 1 (by assumption) ?_;refine tk 2 (by assumption) ?_;refine tk 4 (by assumption) ?_;refine tk 5 (by assumption) ?_;refine tk 6 (by assumption) ?_;refine tk 7 (by assumption) ?_;refine tk 8 (by assumption) ?_;refine tk 9 (by assumption) ?_;refine tk 10 (by assumption) ?_;refine tk 11 (by assumption) ?_;refine tk 12 (by assumption) ?_;refine tk 13 (by assumption) ?_;refine tk 14 (by assumption) ?_;refine tk 15 (by assumption) ?_;refine tk 16 (by assumption) ?_;refine tk 17 (by assumption) ?_;refine tk 18 (by assumption) ?_;refine tk 19 (by assumption) ?_;refine tk 20 (by assumption) ?_;refine tk 21 (by assumption) ?_;refine tk 22 (by assumption) ?_;refine tk 23 (by assumption) ?_;refine tk 24 (by assumption) ?_;refine rz 3 26 (fun K hK=>?_) fun K hK=>?_
 .go_simp;refine hK.o _ _ (fun hH=>?_) (by show X2 b o 11 E n d a _;exact sq);clear hK K;refine tk 25 (by assumption) ?_;refine ry 26 fun K hK=>?_
  go_simp;refine hK.o _ _ (fun hH=>?_) (by show X2 b o 11 E n d a _;exact sq);clear hK K;refine ry 27 fun K hK=>?_
  (refine step_append_lies _ (by rfl) _ _ _ (by rfl) W1.1.size 111 i0 _ 6 72 underlying109 L.o.1 L.o.2.1 L.o.2.2.1 L.o.2.2.2 rfl oq (.slice ln nn cn) nn xs (by rfl) (T.o.drew.alloc _) ⟨w.1.size,0,none⟩ 1 1 zEx (by rfl) (by rfl) (World.news_of_block (ZA w.drew _)) (by simp[Value.oneCell',zEx]) oq (by have:=HB.o.1;unfold maxLen;omega) (by have:=HB.o.1;omega) (by have:=HB.o.2.2.2;simp;omega) (w.1.size+1) (by simp) ?_;intro gg cap w4 m j C aa;have A:=U.o w4 gg cap m j C;have z:=hid m;have y:=hid j;have F:=hid C;clear m j C;have KC:=hid (show X2 b o 11 E n d a w4 from ⟨A.c0,A.c1,A.c2,A.c3,A.c5⟩);obtain⟨f0,f1,f2,f3,f4,f5⟩:=A.f;obtain⟨q0,q1,q2,q3,q4,q5⟩:=A.q;have ak:=A.gf;have aj:=A.g0;obtain⟨G,ah,hbn⟩:=A.ne;have H:=hid G.1;clear G A)
  refine hK.o _ _ (fun hH=>?_) (by show X2 b o 11 E n d a _;exact sq);clear hK K;refine tk 28 (by assumption) ?_;refine tk 30 (by assumption) ?_;refine tk 31 (by assumption) ?_;refine rz 29 32 (fun K hK=>?_) fun K hK=>?_
  .go_simp;refine hK.o _ _ (fun hH=>?_) (by show X2 b o 11 E n d a _;exact sq);clear hK K;refine ry 32 fun K hK=>?_
   go_simp;refine hK.o _ _ (fun hH=>?_) (by show X2 b o 11 E n d a _;exact sq);clear hK K;refine Zz kq ?_ _
   (go_wp2;refine Zl (v:=.tuple #[]) ?_ rfl ?_;(focus (simp[results,results261]));exact⟨rfl,(J.o _ _ _ z.o y.o F.o H.o).1⟩)
  go_simp;refine hK.o _ _ (fun hH=>?_) (by show X2 b o 11 E n d a _;exact sq);clear hK K;refine ry 29 fun K hK=>?_
  go_simp;refine hK.o _ _ (fun hH=>?_) (by show X2 b o 11 E n d a _;exact sq);clear hK K;refine Zz kq ?_ _
  (go_wp2;refine Zl (v:=.tuple #[]) ?_ rfl ?_;(focus (simp[results,results261]));exact⟨rfl,(J.o _ _ _ z.o y.o F.o H.o).2⟩)
 go_simp;refine hK.o _ _ (fun hH=>?_) (by show X2 b o 11 E n d a _;exact sq);clear hK K;refine ry 3 fun K hK=>?_
 go_simp;refine hK.o _ _ (fun hH=>?_) (by show X2 b o 11 E n d a _;exact sq);clear hK K;refine tk 25 (by assumption) ?_;refine ry 27 fun K hK=>?_
 (refine step_append_lies _ (by rfl) _ _ _ (by rfl) W1.1.size 111 i0 _ 6 72 underlying109 L.o.1 L.o.2.1 L.o.2.2.1 L.o.2.2.2 rfl oq (.slice ln nn cn) nn xs (by rfl) (T.o.drew.alloc _) ⟨w.1.size,0,none⟩ 1 1 zEx (by rfl) (by rfl) (World.news_of_block (ZA w.drew _)) (by simp[Value.oneCell',zEx]) oq (by have:=HB.o.1;unfold maxLen;omega) (by have:=HB.o.1;omega) (by have:=HB.o.2.2.2;simp;omega) (w.1.size+1) (by simp) ?_;intro gg cap w4 m j C aa;have A:=U.o w4 gg cap m j C;have z:=hid m;have y:=hid j;have F:=hid C;clear m j C;have KC:=hid (show X2 b o 11 E n d a w4 from ⟨A.c0,A.c1,A.c2,A.c3,A.c5⟩);obtain⟨f0,f1,f2,f3,f4,f5⟩:=A.f;obtain⟨q0,q1,q2,q3,q4,q5⟩:=A.q;have ak:=A.gf;have aj:=A.g0;obtain⟨G,ah,hbn⟩:=A.ne;have H:=hid G.1;clear G A)
 refine hK.o _ _ (fun hH=>?_) (by show X2 b o 11 E n d a _;exact sq);clear hK K;refine tk 28 (by assumption) ?_;refine tk 30 (by assumption) ?_;refine tk 31 (by assumption) ?_;refine rz 29 32 (fun K hK=>?_) fun K hK=>?_
 .go_simp;refine hK.o _ _ (fun hH=>?_) (by show X2 b o 11 E n d a _;exact sq);clear hK K;refine ry 32 fun K hK=>?_
  go_simp;refine hK.o _ _ (fun hH=>?_) (by show X2 b o 11 E n d a _;exact sq);clear hK K;refine Zz kq ?_ _
  (go_wp2;refine Zl (v:=.tuple #[]) ?_ rfl ?_;(focus (simp[results,results261]));exact⟨rfl,(J.o _ _ _ z.o y.o F.o H.o).1⟩)
 go_simp;refine hK.o _ _ (fun hH=>?_) (by show X2 b o 11 E n d a _;exact sq);clear hK K;refine ry 29 fun K hK=>?_
 go_simp;refine hK.o _ _ (fun hH=>?_) (by show X2 b o 11 E n d a _;exact sq);clear hK K;refine Zz kq ?_ _
 (go_wp2;refine Zl (v:=.tuple #[]) ?_ rfl ?_;(focus (simp[results,results261]));exact⟨rfl,(J.o _ _ _ z.o y.o F.o H.o).2⟩)
theorem ZcD{m:List SE}(h:GW W1 gb mb nn m w){b o:Nat}{e:PE}(A:JC W1 b o e)(g:e.k≠11)(q:e.args=.nil) :
  Calls prog 261 #[.pointer (some ⟨gb,0,none⟩),.pointer (some ⟨b,o,none⟩)] w fun x w'=>x=.returned (.tuple #[])/\w'=w:=by
 obtain⟨k,G,n,d,args,a⟩:=e;obtain⟨j,C,c0,c1,c2,c3,y,⟨E,cap,c4,_⟩,_⟩:=A;simp only at g c0 c4 q;subst q;have f:=fun o=>h.low.cell (p:=⟨b,o,none⟩) j
 have F:=(f o).trans c0;have z:=(f (o+4)).trans c4;have D:(k == 11)=false:=ZZ.2 g;simp only[PL.len] at z;clear h f c0 c1 c2 c3 c4 y g;go_enter func261,ntmps261;go_wp2;refine Zl (v:=.tuple #[]) ?_ rfl ?_
 .simp[results,results261]
 exact⟨rfl,rfl⟩
theorem E4(w:World)(base:Nat)(t F e:TypeId)(i:TypeInfo)(z:Value)(size bytes:Nat)(ht:P.underlying t=some (.slice e))(hi:P.info? e=some i)(hz:i.zero=some z)
  (D:i.size=size)(I:i.bytes=bytes)(R:z.cells.size=size)(M:0<size)
  (v:Value)(n:Nat)(xs:List Value)(q:w.ownsRow base e size v n xs)
  (G:OA)(m c:Nat)(news:List Value)(J:news.length=m*size)(f:∀j u,news[j]?=some u->∃x:Addr,G=some x/\w.cell? (x.add j)=some u)(T:∀u∈news,u.oneCell'=true)
  (H:n+m<=maxLen)(A:(n+m)*bytes<=140737488355328)(C:base<=w.1.size) :
  ∃v' w',(Builtin.append_ #[t,t] F #[v,.slice G m c]).run P w=.ok v' w'/\w'.ownsRow base e size v' (n+m) (xs++news)/\w.grownBy w' v.ownBlock/\(v'.ownBlock=v.ownBlock\/v'.ownBlock=some w.1.size):=by
 cases G with
 | some a =>
  obtain⟨v',w',hr,U,V,_,X⟩:=run_append_own_at (P:=P) w base t F e i z size bytes ht hi hz D I R M v n xs q a m c news J (fun j u h=>by obtain⟨x,O,Y⟩:=f j u h;cases O;exact Y) T H A C;exact⟨v',w',hr,U,V,X⟩
 | none =>
  have Z:m=0:=by
   cases news with
   | nil =>
    have h:m*size=0:=J.symm;rcases Nat.mul_eq_zero.1 h with h|h
    .exact h
    omega
   | cons u us=>obtain⟨x,O,_⟩:=f 0 u rfl;cases O
  subst Z;obtain rfl:news=[]:=by simpa using J
  have key:∀(b:OA)(k E:Nat),k<=E->(Builtin.append_ #[t,t] F #[.slice b k E,.slice none 0 c]).run P w=.ok (.slice b k E) w:=by
   intro b k E L;refine run_append_nothing w t t F e i ht hi b k E L _ ⟨.inl ⟨_,ht⟩,?_,?_,?_,by simp,by simp⟩
   .intro w';simp[Builtin.lenOf]
   .simp[Builtin.firstCells]
   simp[Builtin.firstCells]
  have y:=q;rcases q.2 with ⟨rfl,rfl⟩|⟨g,cap,cur,rfl,hb,hg,hnc,hcm,hcs,htk⟩
  .refine⟨_,w,key _ _ _ (Zc _),by simpa using y,World.grownBy.refl _ _,.inl rfl⟩
  refine⟨_,w,key _ _ _ hnc,by simpa using y,World.grownBy.refl _ _,.inl rfl⟩
theorem Qk(w:World){C:Array Oper}{o:Oper}{a:Act}{K:Act->World->Prop}{Q:Exit->Act->World->Prop}{E:Prop}(hgd:o.guard=none)(s x:Operand)(t:TypeId)
  (T:o.op=.call { callee:=.builtin .append,args:=#[s,x],argTypes:=#[t,t] })
  (base:Nat)(e:TypeId)(i:TypeInfo)(z:Value)(size bytes:Nat)(ht:P.underlying t=some (.slice e))(hi:P.info? e=some i)(Z:i.zero=some z)
  (y:i.size=size)(G:i.bytes=bytes)(I:z.cells.size=size)(H:0<size)
  (v:Value)(n:Nat)(xs:List Value)(V:a.eval s=v)(A:w.ownsRow base e size v n xs)
  (D:OA)(m c:Nat)(news:List Value)(Y:a.eval x=.slice D m c)(R:news.length=m*size)(q:∀j u,news[j]?=some u->∃x:Addr,D=some x/\w.cell? (x.add j)=some u)(J:∀u∈news,u.oneCell'=true)
  (F:n+m<=maxLen)(f:(n+m)*bytes<=140737488355328)(g:base<=w.1.size)
  (h:∀v' w',w'.ownsRow base e size v' (n+m) (xs++news)->w.grownBy w' v.ownBlock->(v'.ownBlock=v.ownBlock\/v'.ownBlock=some w.1.size)->K (a.put o.dst v') w') :
  if Region.wanted o (yielded C a.tmps)=true then Oper.wp P o a w K Q else E:=by
 have X:Region.wanted o (yielded C a.tmps)=true:=by simp[Region.wanted,hgd]
 rw[Z3 X];obtain⟨v',w',U,L,M,O⟩:=E4 (P:=P) w base t o.type e i z size bytes ht hi Z y G I H v n xs A D m c news R q J F f g;unfold Oper.wp execOp;simp only[T,resolve,invoke,builtin,Sem.run_bind,Sem.run_pure,ZQ,List.map_toArray,List.map_cons,List.map_nil,V,Y,U];exact h v' w' L M O
theorem GW.same{m:List SE}(h:GW W1 gb mb nn m w)(f:Below w.1.size w w'):GW W1 gb mb nn m w':=by
 obtain⟨x,y,z,g,j,q,v⟩:=h.sta;exact h.names g j ⟨f.os,f.tape,f.output,f.size,fun k hk _=>f.block k hk⟩ ((f.block gb (Zb g)).trans g) (Xi j fun k hk=>f.block k (j.lt k hk).2) q (Zc _)
theorem Qi{e:TypeId}{size:Nat}{v:Value}(h:w.ownsRow base e size v n xs):∃ad c,v=.slice ad n c:=by
 rcases h.2 with ⟨h1,h2⟩|⟨g,cap,cur,h1,_⟩
 .exact⟨none,0,by rw[h1,h2]⟩
 exact⟨_,cap,h1⟩
theorem xj{e:TypeId}{size:Nat}{f:OA}(h:w.ownsRow base e size (.slice f n c) n xs):n<=c:=by
 rcases h.2 with ⟨h1,h2⟩|⟨g,cap,cur,h1,_,_,h2,_⟩
 .omega
 injection h1 with _ _ h1;omega
theorem jG{e:TypeId}{size:Nat}{a:Addr}(h:w.ownsRow base e size (.slice (some a) n c) n xs):∃g,a=⟨g,0,none⟩:=by
 rcases h.2 with ⟨h1,h2⟩|⟨g,cap,cur,h1,_⟩
 .cases h1
 injection h1 with h1 _ _;injection h1 with h1;exact⟨g,h1⟩
theorem Ut{f:List SE}{x y:Value}(h:GW W1 gb mb nn f w)(z:w.1[gb]?=some (XH x y mb)):(∃xs,w.ownsRow W1.1.size 111 6 x nn xs/\NmR xs nn)/\w.ownsRow W1.1.size 401 3 y f.length (UB f):=by
 obtain⟨A,C,v,g,m,j,q⟩:=h.sta;have e:=z.symm.trans g;simp only[XH,Option.some.injEq,Obj.cells.injEq,Array.mk.injEq,List.cons.injEq,and_true,true_and] at e;obtain⟨rfl,rfl⟩:=e;exact⟨⟨v,m,j⟩,q⟩
theorem ZfS{W1 w w2 w3:World}{y:List SE}{z A:Value}(h:GW W1 gb mb nn y w)(g:w.1[gb]?=some (XH z A mb))(hb:Below w.1.size w w2)(x:Upon mb (w2.alloc ob) w3)(I:Vv w3 mb (GY W1) (PcV nn))(J:mb<w.1.size) :
  GW W1 gb mb nn y w3/\w3.1[gb]?=some (XH z A mb):=by
 have D:=h.map;obtain⟨arr,clock,q,_⟩:=D;have hb2:Below w.1.size w (w2.alloc ob):=hb.alloc hb.size _;have f:∀k,k<w.1.size->k≠mb->w3.1[k]?=w.1[k]?:=fun k f hne=>(x.block k (Zd f hb2.size) hne).trans (hb2.block k f)
 have m:=h.low.size;have j:w3.1[gb]?=some (XH z A mb):=(f gb (Zb g) (fun e=>by rw[e,q] at g;cases g)).trans g;obtain⟨⟨C,F,E⟩,G⟩:=Ut h g;have H:∀{e:TypeId}{size n:Nat}{v:Value}{C:List Value},w.ownsRow W1.1.size e size v n C->w3.ownsRow W1.1.size e size v n C:=fun h=>Xi h fun k hk2=>f k (h.lt k hk2).2 (fun e=>Us h (b:=mb) (fun cur e2=>by rw[q] at e2;cases e2) (by rw[<-e];exact hk2))
 refine⟨⟨⟨x.os.trans (hb2.os.trans h.low.os),x.tape.trans (hb2.tape.trans h.low.tape),x.output.trans (hb2.output.trans h.low.output),Zm m (Zm hb2.size x.size),fun k hk1=>(f k oq (by have:=h.hmb;omega)).trans (h.low.block k hk1)⟩,h.hgb,h.hmb,⟨z,A,C,j,H F,E,H G⟩,I,h.stk⟩,j⟩
def SG(gb:Nat)(v:Value)(w':World):Prop:=w'.cell? ⟨gb,0,none⟩=some v
theorem SG.drew{v:Value}(h:SG gb v w'):SG gb v w'.drew:=h
theorem SG.alloc{v:Value}(h:SG gb v w')(ob:Obj):SG gb v (w'.alloc ob):=by
 have hb:gb<w'.1.size:=World.block_lt_of_cell? w' ⟨gb,0,none⟩ h;exact(World.cell?_alloc_lt _ _ _ hb).trans h
theorem SG.set1{v:Value}(h:SG gb v w')(u:Value):SG gb v (w'.setCell ⟨gb,1,none⟩ u):=(World.cell?_setCell_other w' ⟨gb,1,none⟩ ⟨gb,0,none⟩ u (fun e=>by injection e with _ e _;cases e)).trans h
def SP(pb f t:Nat)(w':World):Prop:=w'.cell? ⟨pb,0,none⟩=some (.int .i64 (f:Int))/\w'.cell? ⟨pb,1,none⟩=some (.int .i64 (t:Int))
theorem SP.drew{pb f t:Nat}(h:SP pb f t w'):SP pb f t w'.drew:=h
theorem SP.set{pb f t:Nat}(h:SP pb f t w')(hg:¬pb=g)(u:Value):SP pb f t (w'.setCell ⟨g,j,none⟩ u) :=
 ⟨(ZH _ _ _ _ (fun e=>hg e.symm)).trans h.1,(ZH _ _ _ _ (fun e=>hg e.symm)).trans h.2⟩
theorem uG{gb mb nn gg cap b o:Nat}{f:List SE}{F y:Value}{e:PE}(h:GW W1 gb mb nn f w)(m:w.1[gb]?=some (XH F y mb))(V:JC W1 b o e)
  (E:w4.ownsRow W1.1.size 401 3 (.slice (some ⟨gg,0,none⟩) (f.length+1) cap) (f.length+1) (UB f++[.pointer (some ⟨b,o,none⟩),.int .i64 0,.int .i64 nn]))(C:((w.drew).alloc ob).grownBy w4 y.ownBlock)(H:y.ownBlock=some gg\/gg=w.1.size+1) :
  w4.cell? ⟨gb,0,none⟩=some F/\w4.cell? ⟨gb,1,none⟩=some y/\w4.frozen? ⟨gb,1,none⟩=false/\∀ar:UC e,GW W1 gb mb nn (f++[⟨b,o,0,nn,e⟩]) (w4.setCell ⟨gb,1,none⟩ (.slice (some ⟨gg,0,none⟩) (f.length+1) cap)):=by
 obtain⟨⟨Z,q,O⟩,v⟩:=Ut h m;have I:=Zb m;have R:=XL v m (by decide);have G:∀j,j<w.1.size->((w.drew).alloc ob).1[j]?=w.1[j]?:=fun j hj=>Za w.drew ob j hj
 have A:∀j,j<w.1.size->y.ownBlock≠some j->w4.1[j]?=w.1[j]?:=fun j hj hn=>(C.block j (by simp;omega) (fun e=>hn e.symm)).trans (G j hj)
 have x:w4.1[gb]?=some (XH F y mb):=(A gb I (fun e=>R e.symm)).trans m;obtain⟨⟨c0,c1,c2⟩,U⟩:=XZ x;have Y:w.1.size<=w4.1.size:=by have:=C.size;simp at this;omega
 have J:=h.map.lt;obtain⟨arr,clock,D,_⟩:=id h.map;have M:gg≠gb:=by
  intro e;rcases H with h1|h1
  .rw[e] at h1;exact R h1.symm
  omega
 have z:∀j,j<w.1.size->j≠gb->y.ownBlock≠some j->(w4.setCell ⟨gb,1,none⟩ (.slice (some ⟨gg,0,none⟩) (f.length+1) cap)).1[j]?=w.1[j]?:=fun j hj hn1 hn2=>(heap_setCell_other _ _ _ _ (show j≠gb from hn1)).trans (A j hj hn2)
 have L:y.ownBlock≠some mb:=Us v (b:=mb) (fun cur e2=>by rw[D] at e2;cases e2);have T:=h.low.size;refine⟨c0,c1,U 1,fun ar=>⟨⟨?_,?_,?_,?_,fun k hk=>?_⟩,h.hgb,h.hmb,⟨F,_,Z,gH x _,?_,O,?_⟩,h.map.keep (z mb J (fun e=>by rw[<-e,D] at m;cases m) L) (fun _ h=>h),fun s hs=>?_⟩⟩
 .exact(Xo _ _ _).1.trans (C.os.trans h.low.os)
 .exact(Xo _ _ _).2.1.trans (C.tape.trans h.low.tape)
 .exact(Xo _ _ _).2.2.trans (C.output.trans h.low.output)
 .simp[World.setCell];omega
 .have:=h.hgb;exact(z k oq oq (fun e=>by have:=(v.lt k e).1;omega)).trans (h.low.block k hk)
 .refine Xi q fun k hk=>z k (q.lt k hk).2 (fun e=>XL q m (by decide) (by rw[<-e];exact hk.symm)) (fun e=>?_)
  rcases v.2 with ⟨h1,_⟩|⟨g,cap2,cur,h1,_,hgo,_⟩
  .rw[h1] at e;cases e
  rw[h1] at e;injection e with e
  have e:g=k:=e;subst e;exact XL q hgo (by decide) hk.symm
 .have X:(f++[(⟨b,o,0,nn,e⟩:SE)]).length=f.length+1:=by simp
  rw[X,Q6];exact Xi E fun j hj=>heap_setCell_other _ _ _ _ (fun e=>M (by have:some gg=some j:=hj;injection this with this;rw[this];exact e))
 rcases List.mem_append.1 hs with hs|hs
 .exact h.stk s hs
 rw[List.mem_singleton.1 hs];exact⟨V,Zk _,Zc _,ar⟩
theorem ZaK{base nn y f t:Nat}{v:OA}(h:w.ownsRow base 111 6 (.slice v nn y) nn xs)(q:NmR xs nn)(z:f<=t/\t<=nn) :
  ((xs.drop (f*6)).take ((t-f)*6)).length=(t-f)*6/\(∀j u,((xs.drop (f*6)).take ((t-f)*6))[j]?=some u->∃x:Addr,(match v with|none=>none|some a=>if y=f then some ⟨a.block,0,none⟩ else some ⟨a.block,f*6,none⟩)=some x/\w.drew.cell? (x.add j)=some u)/\∀u∈(xs.drop (f*6)).take ((t-f)*6),u.oneCell'=true:=by
 have D:=h.1;refine⟨by simp;omega,fun j u hu=>?_,fun u hu=>q.1 u (List.mem_of_mem_drop (List.mem_of_mem_take hu))⟩;have A:j<(t-f)*6:=by
  rcases Nat.lt_or_ge j ((t-f)*6) with h|h
  .exact h
  rw[Yd (by simp;omega)] at hu;cases hu
 rw[Yp A,List.getElem?_drop] at hu;have C:=xj h
 cases v with
 | none =>
  rcases h.2 with ⟨m,h2⟩|⟨g,cap,cur,m,_⟩
  .omega
  cases m
 | some a =>
  obtain⟨g,rfl⟩:=jG h;refine⟨⟨g,f*6,none⟩,by simp only;rw[Z2 oq],?_⟩;have:=h.cellAt (f*6+j) oq;rw[show(⟨g,f*6,none⟩:Addr).add j=⟨g,f*6+j,none⟩ by unfold Addr.add;by_cases m:j=0<;>simp[m]];exact this.trans hu
theorem qS{gb mb nn J f t:Nat}{F:List SE}(h:GW W1 gb mb nn F w)(m:w.1[gb]?=some (XH z M mb))(g:w.ownsRow W1.1.size 111 6 z nn xs)(D:NmR xs nn)
  (y:w.1[J]?=some (.cells #[.int .i64 f,.int .i64 t] 398 (0,0)))(A:f<=t/\t<=nn)(E:w4.ownsRow W1.1.size 111 6 v' (nn+(t-f)) (xs++(xs.drop (f*6)).take ((t-f)*6)))(C:(w.drew).grownBy w4 z.ownBlock)(G:v'.ownBlock=z.ownBlock\/v'.ownBlock=some (w.drew).1.size) :
  SP J f t w4/\w4.cell? ⟨gb,0,none⟩=some z/\w4.frozen? ⟨gb,0,none⟩=false/\GW W1 gb mb (nn+(t-f)) F (w4.setCell ⟨gb,0,none⟩ v'):=by
 have H:=Zb m;have L:=XL g m (by decide);have R:=XL g y (by decide);have x:∀j,j<w.1.size->z.ownBlock≠some j->w4.1[j]?=w.1[j]?:=fun j hj hn=>C.block j (by simpa using hj) (fun e=>hn e.symm)
 have q:w4.1[gb]?=some (XH z M mb):=(x gb H (fun e=>L e.symm)).trans m;have v:=(x J (Zb y) (fun e=>R e.symm)).trans y;obtain⟨⟨c0,c1,c2⟩,O⟩:=XZ q;have I:w.1.size<=w4.1.size:=by have:=C.size;simpa using this
 refine⟨⟨by simp[World.cell?,v],by simp[World.cell?,v]⟩,c0,O 0,h.names m g ⟨?_,?_,?_,?_,fun j hj hn=>?_⟩ (ui q _) ?_ (D.snoc g.1 (D.part g.1 A.1 A.2)) oq⟩
 .exact(Xo _ _ _).1.trans C.os
 .exact(Xo _ _ _).2.1.trans C.tape
 .exact(Xo _ _ _).2.2.trans C.output
 .simp[World.setCell];exact I
 .exact(heap_setCell_other _ _ _ _ (show j≠gb from fun e=>hn (.inl e))).trans (x j hj (fun e=>hn (.inr e)))
 refine Xi E fun j hj=>heap_setCell_other _ _ _ _ (fun e=>?_)
 have e:j=gb:=e;rw[e] at hj;rcases G with h1|h1
 .exact L (hj.symm.trans h1)
 rw[hj] at h1;injection h1 with h1
 simp at h1;omega
theorem Zhb{u:Value}{b:Bool}(hy:b=true->PcV nn u)(q:b=false->u=.agg #[.int .i64 0,.int .i64 0]):∃f t:Nat,u=.agg #[.int .i64 (f:Int),.int .i64 (t:Int)]/\(f<=t/\t<=nn):=by
 cases b with
 | true=>obtain⟨f,t,g,j,m⟩:=hy rfl;exact⟨f,t,g,j,m⟩
 | false=>exact⟨0,0,q rfl,Zc _,Zk _⟩
theorem Zay{E:List SE}(h:GW W1 gb mb nn E w){b o:Nat}{e:PE}(he:JC W1 b o e)(hk:e.k≠11)(hl:e.args.len≠0)(hn:nn<=60000000000)(am:E.length<=1000)(aq:UC e) :
  Calls prog 261 #[.pointer (some ⟨gb,0,none⟩),.pointer (some ⟨b,o,none⟩)] w fun x w'=>x=.returned (.tuple #[])/\((∃m,m<=2*nn/\GW W1 gb mb m E w')\/GW W1 gb mb nn (E++[⟨b,o,0,nn,e⟩]) w'):=by
 obtain⟨vn,vo,xs,R,ay,ax,az⟩:=h.sta;have ah:=hid h;have HM:=hid h.map;have ai:=hid (fun v hv=>GY.ptr h.low v hv);have al:=hid (he.ptr h.low);have HE:=hid he;have bi:=h.hgb;have bn:=h.hmb;have aj:=hid ay;have bc:=hid ax;have Z:=hid az;have HG:=hid R;obtain⟨⟨g0,g1,g2⟩,gf⟩:=XZ R;obtain⟨k,nm,n,d,args,a⟩:=e;obtain⟨be,bd,c0,c1,c2,c3,c5,⟨ad,cap,c4,_⟩,_⟩:=he;simp only at hk c0 c4 hl;have hc:=fun o=>h.low.cell (p:=⟨b,o,none⟩) be
 have d0:=(hc o).trans c0;have d4:=(hc (o+4)).trans c4;have bl:(k == 11)=false:=ZZ.2 hk;have bm:((args.len:Int) == 0)=false:=ZZ.2 oq;have bo:=h.low.size;have ar:=Zb R;have aw:=h.map.lt;clear h hc c0 c1 c2 c3 c4 c5 hk hl ay ax az R bd;go_enter func261,ntmps261;go_wp2_with (first|(at_lookup;refine xL KQ _ rfl _ _ rfl mb (GY W1) (PcV nn) _ rfl rfl HM.o ai.o al.o ?_;intro u bb w2 hy hz ae hb2;obtain⟨f,t,rfl,U⟩:=Zhb hy hz;have A:=hid U;clear hy hz U;have HB2:=hid hb2;obtain⟨⟨p0,p1,p2⟩,pf⟩:=XZ ((hb2.block _ ar).trans HG.o);clear hb2;cases bb)|(at_mapUpdate;refine Gq KQ _ rfl _ _ _ rfl mb (GY W1) (PcV nn) _ (.agg #[.int .i64 0,.int .i64 0]) rfl rfl rfl (HM.o.keep (by exact(Za _ _ _ oq).trans (HB2.o.block _ aw)) (fun _ h=>h)) (fun v hv=>(ai.o v hv).keep (fun b cs t fr hb=>⟨cs,(Za _ _ _ (by have:=Zb hb;omega)).trans ((HB2.o.block _ (Zb hb)).trans hb)⟩)) ⟨b,o,_,rfl,HE.o⟩ ⟨0,0,rfl,Zc _,Zk _⟩ ?_;intro w3 ba bf av;have ap:=hid ba;have ao:=hid av;clear ba av))
 .obtain⟨C,G⟩:=ZfS ah.o HG.o HB2.o ap.o ao.o aw;have H:=C.low;obtain⟨lo,co,bg⟩:∃ad co,vo=.slice ad E.length co:=Qi Z.o;subst bg;obtain⟨L,z,an⟩:∃ad z,vn=.slice ad nn z:=Qi aj.o;subst an;have Z:=hid (Ut C G).2;obtain⟨⟨q0,q1,q2⟩,qf⟩:=XZ G;obtain⟨i0,ab,V,X,Y⟩:=VF ZfT;have D:=hid (Zh ab (Zh V (Zh X Y)));have aa:=Zb G;have HB:=hid (Zh am (Zh aa H.size));have KA:=hid (show SG gb (.slice L nn z) w3 from q0);have M:=hid (fun(w4:World) (gg cap:Nat) hown hg hat=>uG (w4:=w4) (gg:=gg) (cap:=cap) (ob:=.cells #[.pointer (some ⟨b,o,none⟩),.int .i64 0,.int .i64 nn] 401) C G HE.o hown hg hat);clear C G H ab V X Y p0 p1 p2 pf g0 g1 g2 gf bf ae d0 d4 am A HB2 ap ao ah HM ai al aj bc HG;refine ZP (S:=fun w'=>w'.cell? ⟨gb,0,none⟩=some (.slice L nn z)) kq (by(show SG gb (.slice L nn z) _;repeat (first|with_reducible exact KA.o|with_reducible exact KC.o|with_reducible refine SG.drew ?_|with_reducible refine SG.alloc ?_ _|(with_reducible refine SG.set1 ?_ _)))) (fun hH=>?_);refine tk 0 hH ?_;refine tk 1 hH ?_;refine tk 2 hH ?_;refine tk 3 hH ?_;refine tk 5 hH ?_;refine tk 6 hH ?_;refine tk 7 hH ?_;refine tk 8 hH ?_;refine tk 9 hH ?_;refine tk 10 hH ?_;refine tk 11 hH ?_;refine rz 4 12 (fun K hK=>?_) fun K hK=>?_
  .go_simp;refine hK.o _ _ (fun hH=>?_) (by show SG gb (.slice L nn z) _;exact sq);clear hK K;refine ry 12 fun K hK=>?_
   go_simp;refine hK.o _ _ (fun hH=>?_) (by show SG gb (.slice L nn z) _;exact sq);clear hK K;refine ry 13 fun K hK=>?_
   (refine step_append_lies _ (by rfl) _ _ _ (by rfl) W1.1.size 401 i0 _ 3 24 underlying387 D.o.1 D.o.2.1 D.o.2.2.1 D.o.2.2.2 rfl oq (.slice lo E.length co) E.length (UB E) (by rfl) (Z.o.drew.alloc _) ⟨w3.1.size,0,none⟩ 1 1 [.pointer (some ⟨b,o,none⟩),.int .i64 0,.int .i64 nn] (by rfl) (by rfl) (World.news_of_block (ZA w3.drew _)) (by simp[Value.oneCell']) oq (by have:=HB.o.1;unfold maxLen;omega) (by have:=HB.o.1;omega) (by have:=HB.o.2.2;simp;omega) (w3.1.size+1) (by simp) ?_;intro gg cap w4 j g q au;have y:=M.o w4 gg cap j g q;have KC:=hid (show SG gb (.slice L nn z) w4 from y.1);have af:=y.2.1;have ag:=y.2.2.1;have F:=hid y.2.2.2;clear y j g q)
   refine hK.o _ _ (fun hH=>?_) (by show SG gb (.slice L nn z) _;exact sq);clear hK K;refine tk 14 hH ?_;refine tk 15 hH ?_;refine ry 16 fun K hK=>?_
   go_simp;refine hK.o _ _ (fun hH=>?_) (by show SG gb (.slice L nn z) _;exact sq);clear hK K;refine Zz kq ?_ _
   (go_wp2;all_goals (refine bodyPost_end (v:=.tuple #[]) ?_ rfl ?_;(focus (simp[results,results261]));exact⟨rfl,.inr (F.o aq)⟩))
  go_simp;refine hK.o _ _ (fun hH=>?_) (by show SG gb (.slice L nn z) _;exact sq);clear hK K;refine ry 4 fun K hK=>?_
  go_simp;refine hK.o _ _ (fun hH=>?_) (by show SG gb (.slice L nn z) _;exact sq);clear hK K;refine ry 13 fun K hK=>?_
  (refine step_append_lies _ (by rfl) _ _ _ (by rfl) W1.1.size 401 i0 _ 3 24 underlying387 D.o.1 D.o.2.1 D.o.2.2.1 D.o.2.2.2 rfl oq (.slice lo E.length co) E.length (UB E) (by rfl) (Z.o.drew.alloc _) ⟨w3.1.size,0,none⟩ 1 1 [.pointer (some ⟨b,o,none⟩),.int .i64 0,.int .i64 nn] (by rfl) (by rfl) (World.news_of_block (ZA w3.drew _)) (by simp[Value.oneCell']) oq (by have:=HB.o.1;unfold maxLen;omega) (by have:=HB.o.1;omega) (by have:=HB.o.2.2;simp;omega) (w3.1.size+1) (by simp) ?_;intro gg cap w4 j g q au;have y:=M.o w4 gg cap j g q;have KC:=hid (show SG gb (.slice L nn z) w4 from y.1);have af:=y.2.1;have ag:=y.2.2.1;have F:=hid y.2.2.2;clear y j g q)
  refine hK.o _ _ (fun hH=>?_) (by show SG gb (.slice L nn z) _;exact sq);clear hK K;refine tk 14 hH ?_;refine tk 15 hH ?_;refine ry 16 fun K hK=>?_
  go_simp;refine hK.o _ _ (fun hH=>?_) (by show SG gb (.slice L nn z) _;exact sq);clear hK K;refine Zz kq ?_ _
  (go_wp2;all_goals (refine bodyPost_end (v:=.tuple #[]) ?_ rfl ?_;(focus (simp[results,results261]));exact⟨rfl,.inr (F.o aq)⟩))
 obtain⟨L,z,an⟩:∃ad z,vn=.slice ad nn z:=Qi aj.o;subst an;have C:GW W1 gb mb nn E (w2.alloc (.cells #[.int .i64 f,.int .i64 t] 398)):=ah.o.same (HB2.o.alloc oq _);have G:(w2.alloc (.cells #[.int .i64 f,.int .i64 t] 398)).1[gb]?=some (XH (.slice L nn z) vo mb):=(Za _ _ _ oq).trans ((HB2.o.block _ ar).trans HG.o);have KA:=hid (show SP w.1.size f t (w2.alloc (.cells #[.int .i64 f,.int .i64 t] 398)) from ⟨by rw[<-ae];go_simp,by rw[<-ae];go_simp⟩);have hpg:¬w.1.size=gb:=oq;have ak:(w2.alloc (.cells #[.int .i64 f,.int .i64 t] 398)).1[w.1.size]?=some (.cells #[.int .i64 f,.int .i64 t] 398 (0,0)):=by rw[<-ae];exact Yx w2 _
 obtain⟨⟨q0,q1,q2⟩,qf⟩:=XZ G;generalize w2.alloc (.cells #[.int .i64 f,.int .i64 t] 398)=w3 at *;obtain⟨J,T,ac⟩:=(Ut C G).1;have I:=hid T;obtain⟨i0,ab,V,X,Y⟩:=VF Zcj;have D:=hid (Zh ab (Zh V (Zh X Y)));have aa:=Zb G;have H:=C.low;have HB:=hid (Zh hn (Zh aa H.size));have U:=A.o;clear ab V X Y p0 p1 p2 pf g0 g1 g2 gf ae d0 d4 am HB2 ah HM ai al Z HG aj;have bh:=xj I.o;have V:(0:Int)<=(f:Int):=oq;have X:(f:Int)<=(t:Int):=oq;have Y:(t:Int)<=(z:Int):=oq;have bj:(0:Int)<=(t:Int):=oq;have bk:(f:Int)<=(z:Int):=oq;have M:=hid (fun(w4:World) (v':Value) hown hg hat=>qS (w4:=w4) (v':=v') C G T ac ak U hown hg hat);have O:=hid (ZaK T ac U);clear ak ac T G C U H
 cases L with
 | none =>
  simp only at O;refine ZP (S:=fun w'=>w'.cell? ⟨w.1.size,0,none⟩=some (.int .i64 f)/\w'.cell? ⟨w.1.size,1,none⟩=some (.int .i64 t)) kq (by(show SP w.1.size f t _;repeat (first|with_reducible exact KA.o|with_reducible exact KC.o|with_reducible refine SP.drew ?_|with_reducible refine SP.alloc ?_ _|(with_reducible refine SP.set ?_ hpg _)))) (fun hH=>?_);refine tk 0 hH ?_;refine tk 1 hH ?_;refine tk 2 hH ?_;refine tk 3 hH ?_;refine tk 5 hH ?_;refine tk 6 hH ?_;refine tk 7 hH ?_;refine tk 9 hH ?_;refine tk 10 hH ?_;refine tk 11 hH ?_;refine tk 12 hH ?_;refine rz 4 8 (fun K hK=>?_) fun K hK=>?_
  .go_simp;refine hK.o _ _ (fun hH=>?_) (by show SP w.1.size f t _;exact sq);clear hK K;refine ry 8 fun K hK=>?_
   go_simp;refine hK.o _ _ (fun hH=>?_) (by show SP w.1.size f t _;exact sq);clear hK K;refine tk 13 hH ?_;refine ry 14 fun K hK=>?_
   (refine Qk _ (by rfl) _ _ _ (by rfl) W1.1.size 111 i0 _ 6 72 underlying109 D.o.1 D.o.2.1 D.o.2.2.1 D.o.2.2.2 rfl oq (.slice none nn z) nn J (by rfl) (I.o.drew) none (t-f) (z-f) ((J.drop (f*6)).take ((t-f)*6)) (by rfl) O.o.1 O.o.2.1 O.o.2.2 (by have:=HB.o.1;have:=A.o;unfold maxLen;omega) (by have:=HB.o.1;have:=A.o;omega) (by have:=HB.o.2.2;simp;omega) ?_;intro v' w4 j g q;obtain⟨lv,cv,rfl⟩:=Qi j;have y:=M.o w4 _ j g q;have KC:=hid (show SP w.1.size f t w4 from y.1);have af:=y.2.1;have ag:=y.2.2.1;have F:=hid y.2.2.2;clear y j g q)
   refine hK.o _ _ (fun hH=>?_) (by show SP w.1.size f t _;exact sq);clear hK K;refine tk 15 hH ?_;refine tk 16 hH ?_;refine ry 17 fun K hK=>?_
   go_simp;refine hK.o _ _ (fun hH=>?_) (by show SP w.1.size f t _;exact sq);clear hK K;refine Zz kq ?_ _
   (go_wp2;all_goals (refine Zl (v:=.tuple #[]) ?_ rfl ?_;(focus (simp[results,results261]));exact⟨rfl,.inl ⟨_,by have:=A.o;omega,F.o⟩⟩))
  go_simp;refine hK.o _ _ (fun hH=>?_) (by show SP w.1.size f t _;exact sq);clear hK K;refine tk 13 hH ?_;refine ry 4 fun K hK=>?_
  go_simp;refine hK.o _ _ (fun hH=>?_) (by show SP w.1.size f t _;exact sq);clear hK K;refine ry 14 fun K hK=>?_
  (refine Qk _ (by rfl) _ _ _ (by rfl) W1.1.size 111 i0 _ 6 72 underlying109 D.o.1 D.o.2.1 D.o.2.2.1 D.o.2.2.2 rfl oq (.slice none nn z) nn J (by rfl) (I.o.drew) none (t-f) (z-f) ((J.drop (f*6)).take ((t-f)*6)) (by rfl) O.o.1 O.o.2.1 O.o.2.2 (by have:=HB.o.1;have:=A.o;unfold maxLen;omega) (by have:=HB.o.1;have:=A.o;omega) (by have:=HB.o.2.2;simp;omega) ?_;intro v' w4 j g q;obtain⟨lv,cv,rfl⟩:=Qi j;have y:=M.o w4 _ j g q;have KC:=hid (show SP w.1.size f t w4 from y.1);have af:=y.2.1;have ag:=y.2.2.1;have F:=hid y.2.2.2;clear y j g q)
  refine hK.o _ _ (fun hH=>?_) (by show SP w.1.size f t _;exact sq);clear hK K;refine tk 15 hH ?_;refine tk 16 hH ?_;refine ry 17 fun K hK=>?_
  go_simp;refine hK.o _ _ (fun hH=>?_) (by show SP w.1.size f t _;exact sq);clear hK K;refine Zz kq ?_ _
  (go_wp2;all_goals (refine Zl (v:=.tuple #[]) ?_ rfl ?_;(focus (simp[results,results261]));exact⟨rfl,.inl ⟨_,by have:=A.o;omega,F.o⟩⟩))
 | some aln =>
  obtain⟨gn,rfl⟩:∃gn,aln=⟨gn,0,none⟩:=jG I.o;simp only at O;refine ZP (S:=fun w'=>w'.cell? ⟨w.1.size,0,none⟩=some (.int .i64 f)/\w'.cell? ⟨w.1.size,1,none⟩=some (.int .i64 t)) kq (by(show SP w.1.size f t _;repeat (first|with_reducible exact KA.o|with_reducible exact KC.o|with_reducible refine SP.drew ?_|with_reducible refine SP.alloc ?_ _|(with_reducible refine SP.set ?_ hpg _)))) (fun hH=>?_);refine tk 0 hH ?_;refine tk 1 hH ?_;refine tk 2 hH ?_;refine tk 3 hH ?_;refine tk 5 hH ?_;refine tk 6 hH ?_;refine tk 7 hH ?_;refine tk 9 hH ?_;refine tk 10 hH ?_;refine tk 11 hH ?_;refine tk 12 hH ?_;refine rz 4 8 (fun K hK=>?_) fun K hK=>?_
  .go_simp;refine hK.o _ _ (fun hH=>?_) (by show SP w.1.size f t _;exact sq);clear hK K;refine ry 8 fun K hK=>?_
   go_simp;refine hK.o _ _ (fun hH=>?_) (by show SP w.1.size f t _;exact sq);clear hK K;refine tk 13 hH ?_;refine ry 14 fun K hK=>?_
   (refine Qk _ (by rfl) _ _ _ (by rfl) W1.1.size 111 i0 _ 6 72 underlying109 D.o.1 D.o.2.1 D.o.2.2.1 D.o.2.2.2 rfl oq (.slice (some ⟨gn,0,none⟩) nn z) nn J (by rfl) (I.o.drew) (if z=f then some ⟨gn,0,none⟩ else some ⟨gn,f*6,none⟩) (t-f) (z-f) ((J.drop (f*6)).take ((t-f)*6)) (by rfl) O.o.1 O.o.2.1 O.o.2.2 (by have:=HB.o.1;have:=A.o;unfold maxLen;omega) (by have:=HB.o.1;have:=A.o;omega) (by have:=HB.o.2.2;simp;omega) ?_;intro v' w4 j g q;obtain⟨lv,cv,rfl⟩:=Qi j;have y:=M.o w4 _ j g q;have KC:=hid (show SP w.1.size f t w4 from y.1);have af:=y.2.1;have ag:=y.2.2.1;have F:=hid y.2.2.2;clear y j g q)
   refine hK.o _ _ (fun hH=>?_) (by show SP w.1.size f t _;exact sq);clear hK K;refine tk 15 hH ?_;refine tk 16 hH ?_;refine ry 17 fun K hK=>?_
   go_simp;refine hK.o _ _ (fun hH=>?_) (by show SP w.1.size f t _;exact sq);clear hK K;refine Zz kq ?_ _
   (go_wp2;all_goals (refine Zl (v:=.tuple #[]) ?_ rfl ?_;(focus (simp[results,results261]));exact⟨rfl,.inl ⟨_,by have:=A.o;omega,F.o⟩⟩))
  go_simp;refine hK.o _ _ (fun hH=>?_) (by show SP w.1.size f t _;exact sq);clear hK K;refine tk 13 hH ?_;refine ry 4 fun K hK=>?_
  go_simp;refine hK.o _ _ (fun hH=>?_) (by show SP w.1.size f t _;exact sq);clear hK K;refine ry 14 fun K hK=>?_
  (refine Qk _ (by rfl) _ _ _ (by rfl) W1.1.size 111 i0 _ 6 72 underlying109 D.o.1 D.o.2.1 D.o.2.2.1 D.o.2.2.2 rfl oq (.slice (some ⟨gn,0,none⟩) nn z) nn J (by rfl) (I.o.drew) (if z=f then some ⟨gn,0,none⟩ else some ⟨gn,f*6,none⟩) (t-f) (z-f) ((J.drop (f*6)).take ((t-f)*6)) (by rfl) O.o.1 O.o.2.1 O.o.2.2 (by have:=HB.o.1;have:=A.o;unfold maxLen;omega) (by have:=HB.o.1;have:=A.o;omega) (by have:=HB.o.2.2;simp;omega) ?_;intro v' w4 j g q;obtain⟨lv,cv,rfl⟩:=Qi j;have y:=M.o w4 _ j g q;have KC:=hid (show SP w.1.size f t w4 from y.1);have af:=y.2.1;have ag:=y.2.2.1;have F:=hid y.2.2.2;clear y j g q)
  refine hK.o _ _ (fun hH=>?_) (by show SP w.1.size f t _;exact sq);clear hK K;refine tk 15 hH ?_;refine tk 16 hH ?_;refine ry 17 fun K hK=>?_
  go_simp;refine hK.o _ _ (fun hH=>?_) (by show SP w.1.size f t _;exact sq);clear hK K;refine Zz kq ?_ _
  (go_wp2;all_goals (refine Zl (v:=.tuple #[]) ?_ rfl ?_;(focus (simp[results,results261]));exact⟨rfl,.inl ⟨_,by have:=A.o;omega,F.o⟩⟩))
