/- Parts of the proof. -/
import Derived.Test.YtgigilkpndhddaaGreatDoorV02
import Derived.Test.YtgigilkpndhddaaGreatDoorV07
import Derived.Test.YtgigilkpndhddaaGreatDoorV13
set_option linter.all false
set_option maxRecDepth 100000
set_option maxHeartbeats 16000000
namespace Go.Proofs.YtgigilkpndhddaaGreatDoor.syn
open Tryz
open Go.RowKit
def dg(i:Nat):ByteArray:=⟨(Lib.decDigits i).toArray⟩
theorem Vi{i:Nat}(h:i<100):(dg i).size≤2:=by
 unfold dg;show((Lib.decDigits i).toArray).size≤2;by_cases f:i<10
 ·rw[Lib.decDigits_one f];simp
 rw[Lib.decDigits_two f h];simp
theorem qz{i:Nat}(h:i<100)(w:World):Calls prog 129 #[.int .i64 i] w fun e w'=>e=.returned (.string (dg i))∧w'=w:=Tryz.strconv_Itoa_small i h w
def spv(e:PE)(ad:Option Addr)(cap:Nat)(way:ByteArray):Value:=.agg #[.int .i64 e.k,.string e.nm,.int .i64 e.n,.int .i64 e.d,.slice ad e.args.len cap,.int .i64 e.a,.string way]
theorem Zbv{k n d:Int}{nm:ByteArray}{len:Nat}(h:exE k n d nm len=true):(k=1→len=0)∧(k=2→1≤len)∧(k≠1→k≠2→len=1):=by
 unfold exE at h;refine⟨fun hk=>?_,fun hk=>?_,fun h1 h2=>?_⟩
 ·rw[Z2 hk] at h;simp at h;omega
 ·rw[Z1 oq,Z2 hk] at h;simp at h;omega
 rw[Z1 h1,Z1 h2] at h;split at h
 ·cases h
 rename_i hn
 have:=not_or.1 hn;omega
theorem GE{e:PE}(h:YE e=true):(e.k=1→e.args.len=0)∧(e.k=2→1≤e.args.len)∧(e.k≠1→e.k≠2→e.args.len=1):=by
 unfold YE at h;rw[ZB] at h;exact Zbv h.2
theorem yT:∀(l:PL)(i:Nat)(e:PE),exR l=true→l.at i=some e→YE e=true
 | .cons k nm n d args a tl,0,e,h,he=>by
  injection he with he;subst he
  rw[exR,ZB,ZB] at h;unfold YE;rw[ZB];exact h.1
 | .cons _ _ _ _ _ _ tl,i+1,e,h,he=>by
  rw[exR,ZB] at h;exact yT tl i e h.2 he
theorem VC{e c:PE}{i:Nat}(h:YE e=true)(f:e.args.at i=some c):YE c=true:=by
 unfold YE at h;rw[ZB] at h;exact yT _ _ _ h.1 f
theorem kC:∀(l:PL){W:World}{b o:Nat},AC W l b o→∀i e,l.at i=some e→∃ad cap,W.cell? ⟨b,o+i*6,none⟩=some (.int .i64 e.k)∧W.cell? ⟨b,o+i*6+1,none⟩=some (.string e.nm)∧W.cell? ⟨b,o+i*6+2,none⟩=some (.int .i64 e.n)∧W.cell? ⟨b,o+i*6+3,none⟩=some (.int .i64 e.d) ∧
  W.cell? ⟨b,o+i*6+4,none⟩=some (.slice ad e.args.len cap)∧W.cell? ⟨b,o+i*6+5,none⟩=some (.int .i64 e.a)∧AE W e ad cap
 | .cons k nm n d args a tl,W,b,o,hac,0,e,he=>by
  injection he with he
  subst he;obtain⟨h0,h1,h2,h3,h5,hn,⟨ad,cap,h4,hcap,hm,hd⟩,ht⟩:=hac;rw[Nat.zero_mul,Nat.add_zero];exact⟨ad,cap,h0,h1,h2,h3,h4,h5,⟨hn,⟨hcap,hm⟩,hd⟩⟩
 | .cons _ _ _ _ _ _ tl,W,b,o,hac,i+1,e,he=>by
  have:=kC tl hac.2.2.2.2.2.2.2 i e he;rw[show o+(i+1)*6=o+6+i*6 by omega];exact this
theorem Y7{w:World}{b:Nat}{f g j m q v x:Value}{t:TypeId}(h:w.heap[b]?=some (.cells #[f,g,j,m,q,v,x] t (0,0))) :
  (w.cell? ⟨b,0,none⟩=some f∧w.cell? ⟨b,1,none⟩=some g∧w.cell? ⟨b,2,none⟩=some j∧w.cell? ⟨b,3,none⟩=some m∧w.cell? ⟨b,4,none⟩=some q∧w.cell? ⟨b,5,none⟩=some v∧w.cell? ⟨b,6,none⟩=some x)∧∀o,w.frozen? ⟨b,o,none⟩=false:=by
 refine⟨⟨?_,?_,?_,?_,?_,?_,?_⟩,?_⟩
 all_goals first|(intro o;simp[World.frozen?,h])|simp[World.cell?,h]
def SA(sb b o len cap:Nat)(ad:Option Addr)(way:ByteArray)(k2:Int)(nm2:ByteArray)(n2 d2:Int)(len2 cap2:Nat)(ad2:Option Addr)(a2:Int)(w':World):Prop :=
 w'.cell? ⟨sb,4,none⟩=some (.slice ad len cap)∧w'.cell? ⟨sb,6,none⟩=some (.string way)∧w'.cell? ⟨b,o,none⟩=some (.int .i64 k2)∧w'.cell? ⟨b,o+1,none⟩=some (.string nm2)∧w'.cell? ⟨b,o+2,none⟩=some (.int .i64 n2)∧w'.cell? ⟨b,o+3,none⟩=some (.int .i64 d2)∧w'.cell? ⟨b,o+4,none⟩=some (.slice ad2 len2 cap2)∧w'.cell? ⟨b,o+5,none⟩=some (.int .i64 a2)
section
variable {sb b o len cap:Nat} {ad:Option Addr} {way:ByteArray} {k2:Int} {nm2:ByteArray} {n2 d2:Int} {len2 cap2:Nat} {ad2:Option Addr} {a2:Int} {w':World}
theorem SA.drew(h:SA sb b o len cap ad way k2 nm2 n2 d2 len2 cap2 ad2 a2 w'):SA sb b o len cap ad way k2 nm2 n2 d2 len2 cap2 ad2 a2 w'.drew:=h
theorem SA.set(h:SA sb b o len cap ad way k2 nm2 n2 d2 len2 cap2 ad2 a2 w'){g j:Nat}(m:¬sb=g)(q:¬b=g)(u:Value):SA sb b o len cap ad way k2 nm2 n2 d2 len2 cap2 ad2 a2 (w'.setCell ⟨g,j,none⟩ u):=by
 have f:∀o,(w'.setCell ⟨g,j,none⟩ u).cell? ⟨b,o,none⟩=w'.cell? ⟨b,o,none⟩:=fun o=>ZG _ _ _ _ (fun e=>q e.symm)
 have hd:∀o,(w'.setCell ⟨g,j,none⟩ u).cell? ⟨sb,o,none⟩=w'.cell? ⟨sb,o,none⟩:=fun o=>ZG _ _ _ _ (fun e=>m e.symm)
 obtain⟨v,x,y,z,A,C,D,E⟩:=h;exact⟨(hd _).trans v,(hd _).trans x,(f _).trans y,(f _).trans z,(f _).trans A,(f _).trans C,(f _).trans D,(f _).trans E⟩
end
theorem Zdj{W0 w:World}(T:Below W0.heap.size W0 w)(e c:PE)(O:Option Addr)(cap:Nat)(f:ByteArray)(i:Nat)(h:AE W0 e O cap)(H:e.args.at i=some c)(hi:i<e.args.len)(y:i<100)(hw:f.size≤1000) :
  Calls prog 100 #[spv e O cap f,.int .i64 (i:Int)] w fun x w'=>(∃ad2 cap2,x=.returned (spv c ad2 cap2 (f++⟨#[47]⟩++dg i))∧AE W0 c ad2 cap2)∧Below w.heap.size w w':=by
 obtain⟨b,o,rfl,hb,A⟩:∃b o,O=some ⟨b,o,none⟩∧b<W0.heap.size∧AC W0 e.args b o:=by
  rcases h.args with h0|h0
  ·rw[h0] at H;cases H
  exact h0
 obtain⟨ad2,cap2,Y,Z,y2,y3,y4,y5,C⟩:=kC _ A i c H;have L:=hid C;have ab:(0:Int)≤(i:Int):=oq;have ac:(i:Int)<(e.args.len:Int):=oq;have aa:=Vi y;have V:=T.size;have M:=hid y;obtain⟨k,X,n,d,args,a⟩:=e;obtain⟨I,q,J,G,g,F⟩:=c;unfold spv;simp only at *;clear h A C H y;have HL:=hid T;clear T;go_enter func100,ntmps100;go_wp2;obtain⟨z,m⟩:∃z,(w.alloc (.cells #[.int .i64 k,.string X,.int .i64 n,.int .i64 d,.slice (some ⟨b,o,none⟩) args.len cap,.int .i64 a,.string f] 184)).alloc (.cells #[.int .i64 0,.string ⟨#[]⟩,.int .i64 0,.int .i64 0,.slice none 0 0,.int .i64 0,.string ⟨#[]⟩] 184)=z:=⟨_,rfl⟩;rw[m];have R:Below w.heap.size w z:=by rw[←m];exact bq
 have D:z.heap[w.heap.size]?=some (.cells #[.int .i64 k,.string X,.int .i64 n,.int .i64 d,.slice (some ⟨b,o,none⟩) args.len cap,.int .i64 a,.string f] 184 (0,0)):=by rw[←m];exact(Za _ _ _ (by simp)).trans (Yw w _)
 have hb1:z.heap[w.heap.size+1]?=some (.cells #[.int .i64 0,.string ⟨#[]⟩,.int .i64 0,.int .i64 0,.slice none 0 0,.int .i64 0,.string ⟨#[]⟩] 184 (0,0)):=by rw[←m];simpa using Yw (w.alloc _) _
 obtain⟨⟨_,_,_,_,s4,_,s6⟩,_⟩:=Y7 D;obtain⟨⟨z0,z1,z2,z3,z4,z5,z6⟩,zf⟩:=Y7 hb1;have j:=fun o=>(R.cell (p:=⟨b,o,none⟩) (Zd hb V)).trans (HL.out.cell (p:=⟨b,o,none⟩) hb)
 have HB:=hid R;have HB1:=hid hb1;have KA:=hid (show SA w.heap.size b (o+i*6) args.len cap (some ⟨b,o,none⟩) f I q J G g.len cap2 ad2 F z from ⟨s4,s6,(j _).trans Y,(j _).trans Z,(j _).trans y2,(j _).trans y3,(j _).trans y4,(j _).trans y5⟩);have U:¬w.heap.size=w.heap.size+1:=oq;have ae:¬9223372036854775807<f.size+1:=oq;have af:¬9223372036854775807<f.size+1+(dg i).size:=oq;have E:¬b=w.heap.size+1:=oq;clear m R D hb1 s4 s6 Y Z y2 y3 y4 y5 j;go_region_held3 (fun w'=>w'.cell? ⟨w.heap.size,4,none⟩=some (.slice (some ⟨b,o,none⟩) args.len cap)∧w'.cell? ⟨w.heap.size,6,none⟩=some (.string f)∧w'.cell? ⟨b,o+i*6,none⟩=some (.int .i64 I)∧w'.cell? ⟨b,o+i*6+1,none⟩=some (.string q)∧w'.cell? ⟨b,o+i*6+2,none⟩=some (.int .i64 J)∧w'.cell? ⟨b,o+i*6+3,none⟩=some (.int .i64 G)∧w'.cell? ⟨b,o+i*6+4,none⟩=some (.slice ad2 g.len cap2)∧w'.cell? ⟨b,o+i*6+5,none⟩=some (.int .i64 F)) ((show SA w.heap.size b (o+i*6) args.len cap (some ⟨b,o,none⟩) f I q J G g.len cap2 ad2 F _;repeat (first|with_reducible exact KA.out|with_reducible refine SA.drew ?_|(with_reducible refine SA.set ?_ U E _)))) (first|(go_at_call 129;refine(qz M.out _).mono ?_;rintro x w1 ⟨rfl,rfl⟩))
 all_goals
  go_wp2;refine Zl (v:=spv ⟨I,q,J,G,g,F⟩ ad2 cap2 (f++⟨#[47]⟩++dg i)) ?_ rfl ?_
  ·simp only[results,results100,spv];go_simp
  exact⟨⟨ad2,cap2,rfl,L.out⟩,bq⟩
def SF(pb b o:Nat)(v:Value)(k2:Int)(nm2:ByteArray)(n2 d2:Int)(len2 cap2:Nat)(ad2:Option Addr)(a2:Int)(w':World):Prop :=
 w'.cell? ⟨pb,2,none⟩=some v∧w'.cell? ⟨b,o+1,none⟩=some (.int .i64 k2)∧w'.cell? ⟨b,o+2,none⟩=some (.string nm2)∧w'.cell? ⟨b,o+3,none⟩=some (.int .i64 n2)∧w'.cell? ⟨b,o+4,none⟩=some (.int .i64 d2)∧w'.cell? ⟨b,o+5,none⟩=some (.slice ad2 len2 cap2)∧w'.cell? ⟨b,o+6,none⟩=some (.int .i64 a2)
section
variable {pb b o:Nat} {v:Value} {k2:Int} {nm2:ByteArray} {n2 d2:Int} {len2 cap2:Nat} {ad2:Option Addr} {a2:Int} {w':World}
theorem SF.drew(h:SF pb b o v k2 nm2 n2 d2 len2 cap2 ad2 a2 w'):SF pb b o v k2 nm2 n2 d2 len2 cap2 ad2 a2 w'.drew:=h
theorem SF.set(h:SF pb b o v k2 nm2 n2 d2 len2 cap2 ad2 a2 w'){g j:Nat}(m:¬pb=g)(q:¬b=g)(u:Value):SF pb b o v k2 nm2 n2 d2 len2 cap2 ad2 a2 (w'.setCell ⟨g,j,none⟩ u):=by
 have f:∀o,(w'.setCell ⟨g,j,none⟩ u).cell? ⟨b,o,none⟩=w'.cell? ⟨b,o,none⟩:=fun o=>ZG _ _ _ _ (fun e=>q e.symm)
 have hd:∀o,(w'.setCell ⟨g,j,none⟩ u).cell? ⟨pb,o,none⟩=w'.cell? ⟨pb,o,none⟩:=fun o=>ZG _ _ _ _ (fun e=>m e.symm)
 obtain⟨x,y,z,A,C,D,E⟩:=h;exact⟨(hd _).trans x,(f _).trans y,(f _).trans z,(f _).trans A,(f _).trans C,(f _).trans D,(f _).trans E⟩
end
theorem Qz{W0 w:World}(hl:Below W0.heap.size W0 w)(p:PG)(an J af L:Option Addr)(O M C R:Nat)(hp:AP W0 p an J af L O M C R)(i:Nat)(hi:i<p.flows.length)(G:i<100) :
  Calls prog 95 #[pv p an J af L O M C R,.int .i64 (i:Int)] w fun x w'=>(∃ad2 cap2,x=.returned (spv p.flows[i].e ad2 cap2 (dg i))∧AE W0 p.flows[i].e ad2 cap2)∧Below w.heap.size w w':=by
 obtain⟨q,ins,flows,A⟩:=p;obtain⟨b,o,rfl,hb,y⟩:=hp.flows.at hi;simp only at hi y ⊢;obtain⟨f,hf⟩:=ez (flows[i]);rw[hf] at y ⊢;obtain⟨nm,⟨U,z,V,T,g,I⟩,fa⟩:=f;obtain⟨ad2,cap2,y0,y1,y2,y3,y4,y5,y6,y7,E,aa⟩:=y.cells;have X:=hid E;have ae:(0:Int)≤(i:Int):=oq;have ag:(i:Int)<(flows.length:Int):=oq;have Y:=hid G;unfold pv spv;simp only;clear hp y E hf G aa y0 y7;have ac:=hl.size;have HL:=hid hl;clear hl;go_enter func95,ntmps95;go_wp2;obtain⟨D,m⟩:∃D,(w.alloc (.cells #[.slice an q.length O,.slice J ins.length M,.slice (some ⟨b,o,none⟩) flows.length C,.slice L A.length R] 27)).alloc (.cells #[.int .i64 0,.string ⟨#[]⟩,.int .i64 0,.int .i64 0,.slice none 0 0,.int .i64 0,.string ⟨#[]⟩] 184)=D:=⟨_,rfl⟩;rw[m];have Z:Below w.heap.size w D:=by rw[←m];exact bq
 have F:D.heap[w.heap.size]?=some (.cells #[.slice an q.length O,.slice J ins.length M,.slice (some ⟨b,o,none⟩) flows.length C,.slice L A.length R] 27 (0,0)):=by rw[←m];exact(Za _ _ _ (by simp)).trans (Yw w _)
 have hb1:D.heap[w.heap.size+1]?=some (.cells #[.int .i64 0,.string ⟨#[]⟩,.int .i64 0,.int .i64 0,.slice none 0 0,.int .i64 0,.string ⟨#[]⟩] 184 (0,0)):=by rw[←m];simpa using Yw (w.alloc _) _
 obtain⟨⟨_,_,s2,_⟩,_⟩:=Yx F;obtain⟨⟨z0,z1,z2,z3,z4,z5,z6⟩,zf⟩:=Y7 hb1;have j:=fun o=>(Z.cell (p:=⟨b,o,none⟩) (Zd hb ac)).trans (HL.out.cell (p:=⟨b,o,none⟩) hb)
 have HB:=hid Z;have KA:=hid (show SF w.heap.size b (o+i*8) (.slice (some ⟨b,o,none⟩) flows.length C) U z V T g.len cap2 ad2 I D from ⟨s2,(j _).trans y1,(j _).trans y2,(j _).trans y3,(j _).trans y4,(j _).trans y5,(j _).trans y6⟩);have ab:¬w.heap.size=w.heap.size+1:=oq;have H:¬b=w.heap.size+1:=oq;clear m Z F hb1 s2 y1 y2 y3 y4 y5 y6 j;go_region_held3 (fun w'=>w'.cell? ⟨w.heap.size,2,none⟩=some (.slice (some ⟨b,o,none⟩) flows.length C)∧w'.cell? ⟨b,o+i*8+1,none⟩=some (.int .i64 U)∧w'.cell? ⟨b,o+i*8+2,none⟩=some (.string z)∧w'.cell? ⟨b,o+i*8+3,none⟩=some (.int .i64 V)∧w'.cell? ⟨b,o+i*8+4,none⟩=some (.int .i64 T)∧w'.cell? ⟨b,o+i*8+5,none⟩=some (.slice ad2 g.len cap2)∧w'.cell? ⟨b,o+i*8+6,none⟩=some (.int .i64 I)) ((show SF w.heap.size b (o+i*8) (.slice (some ⟨b,o,none⟩) flows.length C) U z V T g.len cap2 ad2 I _;repeat (first|with_reducible exact KA.out|with_reducible refine SF.drew ?_|(with_reducible refine SF.set ?_ ab H _)))) (first|(go_at_call 129;refine(qz Y.out _).mono ?_;rintro x w1 ⟨rfl,rfl⟩))
 all_goals
  go_wp2;refine Zl (v:=spv ⟨U,z,V,T,g,I⟩ ad2 cap2 (dg i)) ?_ rfl ?_
  ·simp only[results,results95,spv];go_simp
  exact⟨⟨ad2,cap2,rfl,X.out⟩,bq⟩
theorem uG{w:World}(e:PE)(v:Option Addr)(cap:Nat)(h:YE e=true):Calls prog 96 #[ev e v cap] w fun x w'=>x=.returned (.bool true)∧Below w.heap.size w w':=by
 obtain⟨g,m,j⟩:=GE h;obtain⟨k,A,n,d,args,a⟩:=e;unfold ev;simp only at g m j ⊢;clear h;by_cases q:k=1
 ·subst q;have g:=g rfl;clear m j;rw[g];go_enter func96,ntmps96;go_wp2;go_ret;exact⟨rfl,bq⟩
 have y:(k == 1)=false:=ZY.2 q;by_cases f:k=2
 ·subst f;have m:decide (0<args.len)=true:=Z0 (by have:=m rfl;omega);clear g j;go_enter func96,ntmps96;go_wp2;go_ret;exact⟨rfl,bq⟩
 have z:(k == 2)=false:=ZY.2 f;have j:=j q f;clear g m q f;rw[j];go_enter func96,ntmps96;go_wp2;go_ret;exact⟨rfl,bq⟩
theorem Gi{w:World}(e:PE)(g:Option Addr)(cap:Nat)(f:ByteArray):Calls prog 94 #[spv e g cap f] w fun x w'=>x=.returned (.func (.func 127) #[] #[.pointer (some ⟨w.heap.size,0,none⟩)])∧w'=w.alloc (.cells #[.int .i64 e.k,.string e.nm,.int .i64 e.n,.int .i64 e.d,.slice g e.args.len cap,.int .i64 e.a,.string f] 184):=by
 unfold spv;go_enter func94,ntmps94;go_wp2;go_ret;exact⟨rfl,rfl⟩
theorem VG{w:World}(nm:ByteArray)(f ph a:Int):Calls prog 97 #[.agg #[.string nm,.int .i64 f,.int .i64 ph,.int .i64 a]] w fun x w'=>x=.returned (.agg #[.int .i64 f,.int .i64 ph])∧Below w.heap.size w w':=by
 go_enter func97,ntmps97;go_wp2;refine Zl (v:=.agg #[.int .i64 f,.int .i64 ph]) ?_ rfl ?_
 ·simp only[results,results97];go_simp
 exact⟨rfl,bq⟩
theorem U8{w:World}(e:PE)(f:Option Addr)(cap:Nat):Calls prog 133 #[ev e f cap] w fun x w'=>x=.returned (.agg #[.int .i64 e.k,.int .i64 e.n,.int .i64 e.d])∧Below w.heap.size w w':=by
 unfold ev;go_enter func133,ntmps133;go_wp2;refine Zl (v:=.agg #[.int .i64 e.k,.int .i64 e.n,.int .i64 e.d]) ?_ rfl ?_
 ·simp only[results,results133];go_simp
 exact⟨rfl,bq⟩
attribute [local go_sem] ZT
def YY:PL→ByteArray→Nat→List (PE × ByteArray)
 | .nil,_,_=>[]
 | .cons k nm n d args a tl,w,i=>(⟨k,nm,n,d,args,a⟩,w++⟨#[47]⟩++dg i)::(YY args (w++⟨#[47]⟩++dg i) 0++YY tl w (i+1))
def YX(e:PE)(w:ByteArray):List (PE × ByteArray):=(e,w)::YY e.args w 0
theorem ZaH:∀(l:PL)(w:ByteArray)(i:Nat),(YY l w i).length=l.sz:=by
 intro l
 induction l with
 | nil=>intro w i;rfl
 | cons k nm n d args a tl ih1 ih2=>intro w i;simp only[YY,Zp,Zx,ih1,ih2,PL.sz];omega
structure Qv (W0:World) (e:PE) (ad:Option Addr) (cap:Nat) (way:ByteArray):Prop where
 mem:AE W0 e ad cap
 good:YE e=true
 short:way.size+3*e.args.sz≤500
 few:e.args.sz<100
structure VS (W0:World) where
 s:PE × ByteArray
 ad:Option Addr
 cap:Nat
 ok:Qv W0 s.1 ad cap s.2
def VS.vs{W0:World}(x:VS W0):Array Value:=#[.agg #[.int .i64 x.s.1.k,.string x.s.1.nm,.int .i64 x.s.1.n,.int .i64 x.s.1.d,.slice x.ad x.s.1.args.len x.cap,.int .i64 x.s.1.a,.string x.s.2]]
def xF(F:Fence)(W0:World):Prop:=∀(n:Nat)(W:World)(e c:PE)(ad:Option Addr)(cap:Nat)(way:ByteArray)(i:Nat),Below W0.heap.size W0 W→Qv W0 e ad cap way→e.args.at i=some c →
 CallsIn F n prog 100 #[spv e ad cap way,.int .i64 (i:Int)] W fun x w'=>(∃ad2 cap2,x=.returned (spv c ad2 cap2 (way++⟨#[47]⟩++dg i))∧Qv W0 c ad2 cap2 (way++⟨#[47]⟩++dg i))∧Below W.heap.size W w'
theorem K8:∀(l:PL)(i:Nat)(e:PE),l.at i=some e→i<l.len∧e.args.sz+1≤l.sz
 | .cons k nm n d args a tl,0,e,h=>by
  injection h with h;subst h
  simp only[PL.len,PL.sz];omega
 | .cons _ _ _ _ args _ tl,i+1,e,h=>by
  have:=K8 tl i e h;simp only[PL.len,PL.sz];omega
theorem JN{W0 w:World}(v:Below W0.heap.size W0 w)(e c:PE)(g:Option Addr)(cap:Nat)(f:ByteArray)(i:Nat)(h:Qv W0 e g cap f)(m:e.args.at i=some c) :
  Calls prog 100 #[spv e g cap f,.int .i64 (i:Int)] w fun x w'=>(∃ad2 cap2,x=.returned (spv c ad2 cap2 (f++⟨#[47]⟩++dg i))∧Qv W0 c ad2 cap2 (f++⟨#[47]⟩++dg i))∧Below w.heap.size w w':=by
 obtain⟨q,z⟩:=K8 _ _ _ m;have A:=QR e.args;have C:=h.few;have D:=h.short;have E:=Vi (i:=i) oq;refine(Zdj v e c g cap f i h.mem m q oq oq).mono ?_;rintro x w' ⟨⟨ad2,cap2,y,j⟩,hb⟩;refine⟨⟨ad2,cap2,y,⟨j,VC h.good m,?_,oq⟩⟩,hb⟩;have F:(f++(⟨#[47]⟩:ByteArray)++dg i).size=f.size+1+(dg i).size:=by
  rw[ByteArray.size_append,ByteArray.size_append];rfl
 omega
theorem G1(W0:World):xF Fence.wide W0:=fun n W e c ad cap way i hl h hc=>Zt.2 (JN hl e c ad cap way i h hc)
theorem xL{β:Type}{B:Nat}{J:β→World→Prop}(h:AbidesFrom B J){s:β}{W W':World}(hs:J s W)(hb:Below W.heap.size W W'):J s W' :=
 h s W _ none hs ⟨hb.os,hb.tape,hb.output,hb.size,fun k hk _=>hb.block k hk⟩ (fun r e=>by cases e)
def kept(o:Obj):Bool:=match o with
 | .cells _ t _=>t != 65
 | _=>false
theorem Ev{o:Obj}(h:kept o=true):o.isCells=true:=by
 cases o<;>first|rfl|exact Bool.noConfusion h
structure KF (n₀ Bk:Nat) (W W':World):Prop where
 below:Below n₀ W W'
 same:∀(k:Nat)(o:Obj),Bk≤k→W.heap[k]?=some o→kept o=true→W'.heap[k]?=some o
theorem KF.refl(n₀ Bk:Nat)(W:World):KF n₀ Bk W W:=⟨Zg _ _,fun _ _ _ h _=>h⟩
theorem KF.trans{n₀ Bk:Nat}{A B C:World}(h:KF n₀ Bk A B)(k:KF n₀ Bk B C):KF n₀ Bk A C:=⟨h.below.trans k.below,fun i o hb hi ho=>k.same i o hb (h.same i o hb hi ho) ho⟩
theorem KF.of_below{n₀ Bk:Nat}{A W W':World}(h:KF n₀ Bk A W)(hb:Below W.heap.size W W')(hn:n₀≤W.heap.size):KF n₀ Bk A W' :=
 h.trans ⟨hb.mono hn,fun k o _ hk _=>(hb.block k (Zb hk)).trans hk⟩
theorem KF.alloc{n₀ Bk:Nat}{A W:World}(h:KF n₀ Bk A W)(hn:n₀≤W.heap.size)(o:Obj):KF n₀ Bk A (W.alloc o):=h.of_below ((Zg _ _).alloc (Zc _) _) hn
theorem KC.kf{n₀:Nat}{A B:World}(h:KC n₀ A B)(Bk:Nat):KF n₀ Bk A B:=⟨h.below,fun k o _ hk ho=>h.same k o hk (Ev ho)⟩
theorem KF.putObj{n₀ Bk:Nat}(W:World)(l:Nat)(o o':Obj)(hl:n₀≤l)(h:W.heap[l]?=some o)(hc:o.isCells=false):KF n₀ Bk W (W.putObj l o'):=(KC.putObj W l o o' hl h hc).kf Bk
def kA{W0:World}(n₀ Bk:Nat)(J Jx:List (VS W0)→World→Prop)(pre:List (VS W0))(e:PE)(way:ByteArray)(W:World)(x:Ending)(W':World):Prop :=
 (x=.returned (.bool true)∧(∃ys:List (VS W0),ys.map (·.s)=YX e way∧J (pre++ys) W')∧KF n₀ Bk W W') ∨
  (x=.returned (.bool false)∧∃q:List (VS W0),q.map (·.s) <+: YX e way∧Jx (pre++q) W')
def Zf4{W0:World}(n₀ Bk:Nat)(J:List (VS W0)→World→Prop)(pre:List (VS W0))(e:PE)(way:ByteArray)(W:World)(v:Value)(wr:World):Prop :=
 ∃(i:Nat)(rest:PL)(ys:List (VS W0)),v=.int .i64 (i:Int)∧i+rest.len=e.args.len∧(∀j,rest.at j=e.args.at (i+j))∧rest.sz≤e.args.sz∧ys.map (·.s)++YY rest way i=YX e way∧J (pre++ys) wr∧KF n₀ Bk W wr
theorem Zdn{k n d a:Int}{nm:ByteArray}{args tl l:PL}{i:Nat}(h:∀j,(PL.cons k nm n d args a tl).at j=l.at (i+j)):∀j,tl.at j=l.at (i+1+j):=fun j=>by
 have:=h (j+1);rw[show i+1+j=i+(j+1) by omega,←this];rfl
theorem j6{W0:World}(F:Fence)(hd:F.depth=none)(hF:F.fn 128)(hA:F.fn 100)(ba:F.round=none)(ag:xF F W0)(l B Bk N:Nat)(J Jx:List (VS W0)→World→Prop)(hJ:AbidesFrom B J)
  (hY:∀m pre x W,J pre W→pre.length<N→YieldAt F m prog l x.vs W fun e W'=>(e=.returned (.bool true)∧J (pre++[x]) W'∧KF W0.heap.size Bk W W')∨(e=.returned (.bool false)∧Jx (pre++[x]) W'))(e:PE)
  (ih:∀e':PE,e'.args.sz<e.args.sz→∀(n:Nat)(A:Option Addr)(cap:Nat)(f:ByteArray)(pre:List (VS W0))(W:World),Qv W0 e' A cap f→Below W0.heap.size W0 W→Bk≤W.heap.size→J pre W→pre.length+e'.args.sz+1≤N →
   CallsIn F n prog 128 #[spv e' A cap f,.func (.yield l) #[] #[]] W (kA W0.heap.size Bk J Jx pre e' f W)) :
  ∀(n:Nat)(A:Option Addr)(cap:Nat)(f:ByteArray)(pre:List (VS W0))(W:World),Qv W0 e A cap f→Below W0.heap.size W0 W→Bk≤W.heap.size→J pre W→pre.length+e.args.sz+1≤N →
   CallsIn F n prog 128 #[spv e A cap f,.func (.yield l) #[] #[]] W (kA W0.heap.size Bk J Jx pre e f W):=by
 intro n A cap f pre W D hb O hj hN;obtain⟨k,Y,Z,d,args,a⟩:=e;have am:=D.mem.len;simp only at am hN ih ⊢;have aw:∀k:Nat,(F.depth.isSome=true→1≤k):=fun k h=>by rw[hd] at h;cases h
 have an:=hb.size;obtain⟨X,ai,aj⟩:∃X:VS W0,X.vs=#[.agg #[.int .i64 k,.string Y,.int .i64 Z,.int .i64 d,.slice A args.len cap,.int .i64 a,.string f]]∧X.s=(⟨k,Y,Z,d,args,a⟩,f):=⟨⟨(⟨k,Y,Z,d,args,a⟩,f),A,cap,D⟩,rfl,rfl⟩;obtain⟨fn,bc,assign,body,hy,hR⟩:=hY (n-1) pre X (W.alloc (Obj.cells #[.int .i64 k,.string Y,.int .i64 Z,.int .i64 d,.slice A args.len cap,.int .i64 a,.string f] 184)) (JM hJ hj _) oq;rw[ai] at hy;have af:=hid aj;have HA:=hid D;have HB:=hid hb;have aq:=hid ih;have HR:=hid hR;have ao:=hid ag;clear ai aj D hb ih hR hj ag;unfold spv at *;simp only at *;refine callsIn_of_wp func128 rfl hF ?_ ba;simp only[ntmps128,ZI,Zp,Zw,Nat.reduceAdd,Nat.reduceSub,ZF,ZE,ZL,ZJ,ZM,ZC];gi_wp2;refine HR.out.mono ?_;rintro e W1 (⟨rfl,ah,U⟩|⟨rfl,av⟩)
 ·have g:=U.same W.heap.size _ O (Yw W _) rfl;obtain⟨⟨x0,x1,x2,x3,x4,x5,x6⟩,xf⟩:=Y7 g;have ar:=hid ah;have L:=hid ((KF.refl W0.heap.size Bk W).alloc an _ |>.trans U);have ap:=hid g;clear ah U g;gi_wp2;gi_loopw [14] (fun v wr=>Hid (Zf4 W0.heap.size Bk J pre ⟨k,Y,Z,d,args,a⟩ f W1 v wr)) (fun i _=>args.len-(intOf i).toNat)
  case atStart=>exact⟨0,args,[X],rfl,by simp,by simp,Zc _,by simp only[List.map_cons,List.map_nil,List.singleton_append,af.out,YX],ar.out,KF.refl _ _ _⟩
  obtain⟨i,rest,ys,rfl,E,R,H,j,al,z⟩:=hrel.out;clear hrel;have ae:=hid z;have ac:=hid al;simp only at E R H;have T:Below W0.heap.size W0 wr:=HB.out.trans (L.out.below.trans z.below);have g:=z.same W.heap.size _ O ap.out rfl;have au:Bk≤wr.heap.size:=Zm O (L.out.below.trans z.below).size;have HBW:=hid T;have ab:=hid R;have I:=T.size;clear z al T R
  cases rest with
  | nil =>
   have ak:(i:Int)=(args.len:Int):=by simp only[PL.len] at E;omega
   simp only[YY,List.append_nil] at j;have C:=hid j;clear j;gi_wp2;go_ret;exact .inl ⟨rfl,⟨ys,C.out,ac.out⟩,L.out.trans ae.out⟩
  | cons k1 nm1 n1 d1 args1 a1 tl =>
   have ak:(i:Int)<(args.len:Int):=by simp only[PL.len] at E;omega
   obtain⟨⟨x0,x1,x2,x3,x4,x5,x6⟩,xf⟩:=Y7 g;have h0:=ab.out 0;have G:=Z3 List.length j;simp only[Zx,Zo,ZaH,Zp,PL.sz,YX] at G H;have aa:=hid (ao.out (n-1) wr ⟨k,Y,Z,d,args,a⟩ ⟨k1,nm1,n1,d1,args1,a1⟩ A cap f i HBW.out HA.out h0.symm);have HC:=hid (fun w1 (hb1:Below wr.heap.size wr w1) M y (V:Qv W0 ⟨k1,nm1,n1,d1,args1,a1⟩ M y (f++⟨#[47]⟩++dg i))=>aq.out ⟨k1,nm1,n1,d1,args1,a1⟩ (by show args1.sz<args.sz;omega) (n-1) M y (f++⟨#[47]⟩++dg i) (pre++ys) w1 V (HBW.out.trans (hb1.mono I)) (Zm au hb1.size) (xL hJ ac.out hb1) (by simp only[Zx];omega));have C:=hid j;clear h0 j G g;gi_wp2_with ((try refine⟨aw _,?_⟩);first|(gi_at_call 100;refine aa.out.mono ?_;rintro x w1 ⟨⟨M,y,rfl,V⟩,hb1⟩;unfold spv;simp only)|(gi_at_call 128;refine(HC.out _ hb1 _ _ V).mono ?_;rintro x w2 (⟨rfl,⟨zs,bb,ax⟩,az⟩|⟨rfl,q,hq,ay⟩)))
   ·go_roundw
    case rel=>exact⟨i+1,tl,ys++zs,by go_num,by simp only[PL.len] at E;show i+1+tl.len=args.len;omega,Zdn ab.out,by show tl.sz≤args.sz;omega,by rw[ZU,bb,←C.out,YY,YX];simp,by rw[←List.append_assoc];exact ax,(ae.out.of_below hb1 I).trans az⟩
    simp[intOf];omega
   go_ret;refine .inr ⟨rfl,ys++q,?_,by rw[←List.append_assoc];exact ay⟩;obtain⟨r,hr⟩:=hq;refine⟨r++YY tl f (i+1),?_⟩;rw[ZU,←C.out,YY,←ZC];unfold YX at hr;rw[←hr];simp
 gi_wp2;go_ret;exact .inr ⟨rfl,[X],⟨YY args f 0,by simp only[List.map_cons,List.map_nil,List.singleton_append,af.out,YX]⟩,av⟩
theorem uM{W0:World}(F:Fence)(hd:F.depth=none)(z:F.fn 128)(y:F.fn 100)(v:F.round=none)(q:xF F W0)(l B Bk N:Nat)(J j:List (VS W0)→World→Prop)(A:AbidesFrom B J)
  (C:∀m pre x W,J pre W→pre.length<N→YieldAt F m prog l x.vs W fun e W'=>(e=.returned (.bool true)∧J (pre++[x]) W'∧KF W0.heap.size Bk W W')∨(e=.returned (.bool false)∧j (pre++[x]) W')) :
  ∀(e:PE)(n:Nat)(g:Option Addr)(cap:Nat)(f:ByteArray)(pre:List (VS W0))(W:World),Qv W0 e g cap f→Below W0.heap.size W0 W→Bk≤W.heap.size→J pre W→pre.length+e.args.sz+1≤N →
   CallsIn F n prog 128 #[spv e g cap f,.func (.yield l) #[] #[]] W (kA W0.heap.size Bk J j pre e f W):=by
 intro e
 suffices h:∀(M:Nat)(e:PE),e.args.sz<M→∀(n:Nat)(g:Option Addr)(cap:Nat)(f:ByteArray)(pre:List (VS W0))(W:World),Qv W0 e g cap f→Below W0.heap.size W0 W→Bk≤W.heap.size→J pre W→pre.length+e.args.sz+1≤N →
   CallsIn F n prog 128 #[spv e g cap f,.func (.yield l) #[] #[]] W (kA W0.heap.size Bk J j pre e f W) from h _ e (ZW _)
 intro M
 induction M with
 | zero=>intro e h;omega
 | succ M ih=>intro e h;exact j6 F hd z y v q l B Bk N J j A C e (fun e' h'=>ih e' oq)
theorem qi{W0:World}(F:Fence)(hd:F.depth=none)(V:F.fn 127)(U:F.fn 128)(T:F.fn 100)(y:F.round=none)(g:xF F W0)(n l B Bk Bs:Nat)(e:PE)(A:Option Addr)(cap:Nat)(f:ByteArray)
  (R:Qv W0 e A cap f)(J z:List (VS W0)→World→Prop)(X:AbidesFrom B J)
  (O:∀m pre x W,J pre W→pre.length<e.args.sz+1→YieldAt F m prog l x.vs W fun e W'=>(e=.returned (.bool true)∧J (pre++[x]) W'∧KF W0.heap.size Bk W W')∨(e=.returned (.bool false)∧z (pre++[x]) W'))
  (W:World)(M:Below W0.heap.size W0 W)(C:Bk≤W.heap.size)(j:W.heap[Bs]?=some (.cells #[.int .i64 e.k,.string e.nm,.int .i64 e.n,.int .i64 e.d,.slice A e.args.len cap,.int .i64 e.a,.string f] 184 (0,0)))(L:J [] W) :
  CallsIn F n prog 127 #[.func (.yield l) #[] #[],.pointer (some ⟨Bs,0,none⟩)] W fun x W'=>(∃v,x=.returned v) ∧
   ((∃xs:List (VS W0),xs.map (·.s)=YX e f∧J xs W')∨(∃pre:List (VS W0),pre.map (·.s) <+: YX e f∧z pre W')):=by
 have D:∀k:Nat,(F.depth.isSome=true→1≤k):=fun k h=>by rw[hd] at h;cases h
 have I:=hid (uM F hd U T y g l B Bk (e.args.sz+1) J z X O e (n-1) A cap f [] W R M C L (by simp));obtain⟨⟨x0,x1,x2,x3,x4,x5,x6⟩,xf⟩:=Y7 j;clear O M L g R j;unfold spv at I;refine callsIn_of_wp func127 rfl V ?_ y;simp only[ntmps127,ZI,Zp,Zw,Nat.reduceAdd,Nat.reduceSub,ZF,ZE,ZL,ZJ,ZM,ZC];gi_wp2_with ((try refine⟨D _,?_⟩);gi_at_call 128;refine I.out.mono ?_;rintro x w2 (⟨rfl,⟨zs,H,E⟩,Y⟩|⟨rfl,q,Z,G⟩))
 ·go_end0;exact⟨⟨_,rfl⟩,.inl ⟨zs,H,by simpa using E⟩⟩
 go_end0;exact⟨⟨_,rfl⟩,.inr ⟨q,Z,by simpa using G⟩⟩
theorem Ug{W0:World}(F:Fence)(hd:F.depth=none)(hG:F.fn 127)(hF:F.fn 128)(hA:F.fn 100)(hro:F.round=none)(hAI:xF F W0)(n Bs:Nat)(e:PE)(ad:Option Addr)(cap:Nat)(way:ByteArray)
  (hs:Qv W0 e ad cap way)(w:World)(Bk:Nat)(hBk:Bk≤w.heap.size)(hB:Below W0.heap.size W0 w)(hbx:w.heap[Bs]?=some (.cells #[.int .i64 e.k,.string e.nm,.int .i64 e.n,.int .i64 e.d,.slice ad e.args.len cap,.int .i64 e.a,.string way] 184 (0,0))) :
  SeqStopsK F n prog 127 #[.pointer (some ⟨Bs,0,none⟩)] (fun x:VS W0=>x.vs) (KF W0.heap.size Bk) (fun xs=>xs.map (·.s)=YX e way) (fun pre=>pre.map (·.s) <+: YX e way) (e.args.sz+1) w:=fun l J Jx W hW hJ hJx hY h0 =>
 qi F hd hG hF hA hro hAI n l W.heap.size Bk Bs e ad cap way hs J Jx hJ (fun m pre x W hj hl=>YieldAt.deep hd m (hY pre x W hj hl)) W (hB.trans (hW.mono hB.size)) (Zm hBk hW.size) ((hW.block Bs (Zb hbx)).trans hbx) h0
def yw(w:World)(b:Nat)(l:List (Int × Int)):Prop:=∀i (h:i<l.length),w.cell? ⟨b,i*2,none⟩=some (.int .i64 l[i].1)∧w.cell? ⟨b,i*2+1,none⟩=some (.int .i64 l[i].2)
def ZfL(w W:World)(l1 l2:List (Int × Int))(v:Value)(wr:World):Prop :=
 ∃i:Nat,v=.int .i64 (i:Int)∧i≤l1.length∧l1.take i=l2.take i∧Below w.heap.size w wr
theorem Gq{w:World}(f g:List (Int × Int))(z A:Nat)(hb1:z<w.heap.size)(hb2:A<w.heap.size)(R:yw w z f)(T:yw w A g)(hl:f.length≤1000)(ab:g.length≤1000) :
  Calls prog 93 #[.slice (some ⟨z,0,none⟩) f.length f.length,.slice (some ⟨A,0,none⟩) g.length g.length] w fun x w'=>x=.returned (.bool (decide (f=g)))∧Below w.heap.size w w':=by
 have H1:=hid R;have H2:=hid T;clear R T;go_enter func93,ntmps93;by_cases C:f.length=g.length
 ·have hq:((f.length:Int) != (g.length:Int))=false:=by simp[C]
  go_wp2;go_loopw [13] (fun v wr=>Hid (ZfL w w f g v wr)) (fun i _=>f.length-(intOf i).toNat)
  case atStart=>exact⟨0,rfl,Zk _,rfl,Zg _ _⟩
  obtain⟨i,rfl,hi,q,y⟩:=hrel.out;clear hrel;by_cases M:i<f.length
  ·have O:(i:Int)<(f.length:Int):=oq;have aa:(i:Int)<(g.length:Int):=oq;have L:i<g.length:=oq;obtain⟨c1,d1⟩:=H1.out i M;obtain⟨c2,d2⟩:=H2.out i L;have g1:wr.cell? ⟨z,i*2,none⟩=_:=(y.cell (p:=⟨z,i*2,none⟩) hb1).trans c1;have g2:wr.cell? ⟨z,i*2+1,none⟩=_:=(y.cell (p:=⟨z,i*2+1,none⟩) hb1).trans d1;have g3:wr.cell? ⟨A,i*2,none⟩=_:=(y.cell (p:=⟨A,i*2,none⟩) hb2).trans c2;have g4:wr.cell? ⟨A,i*2+1,none⟩=_:=(y.cell (p:=⟨A,i*2+1,none⟩) hb2).trans d2;obtain⟨⟨F,G⟩,D⟩:=ez (f[i]);obtain⟨⟨p2,U⟩,E⟩:=ez (g[i]);rw[D] at g1 g2;rw[E] at g3 g4;simp only at g1 g2 g3 g4;have H:=hid D;have I:=hid E;have X:=hid q;have HB:=hid y;clear c1 d1 c2 d2 D E q y;by_cases j:F=p2∧G=U
   ·obtain⟨e1,e2⟩:=j;subst e1 e2;have m:=fun w=>J1 F G F G w
    simp only[and_self,decide_true] at m;have V:=hid (show f.take (i+1)=g.take (i+1) by
     rw[Zv M,Zv L,X.out,H.out,I.out])
    go_wp2;go_quiet (fail);go_wp2;exact⟨⟨i+1,by go_num,oq,V.out,bq⟩,by simp[intOf];omega⟩
   have HD:=hid (show decide (f=g)=false from ZZ (fun e=>j (by
    subst e;have:=H.out.symm.trans I.out;injection this with R T
    exact⟨R,T⟩)))
   by_cases he:F=p2
   ·subst he;have Y:¬G=U:=fun e=>j ⟨rfl,e⟩
    have m:=fun w=>J1 F G F U w
    simp only[true_and,ZZ Y] at m;clear j;go_wp2;go_quiet (fail);go_wp2;go_ret;exact⟨by rw[HD.out];rfl,bq⟩
   have m:=fun w=>J1 F G p2 U w
   simp only[he,false_and,decide_false] at m;clear j;go_wp2;go_quiet (fail);go_wp2;go_ret;exact⟨by rw[HD.out];rfl,bq⟩
  have Z:i=f.length:=oq;have J:f=g:=by
   subst Z;rw[ZS,C,ZS] at q;exact q
  have O:¬(i:Int)<(f.length:Int):=oq;have HE:=hid J;have HB:=hid y;clear J y q;go_wp2;go_ret;exact⟨by rw[Z0 HE.out];rfl,HB.out⟩
 have hq:((f.length:Int) != (g.length:Int))=true:=by
  rw[bne_iff_ne];omega
 have hd:decide (f=g)=false:=ZZ (fun e=>C (by rw[e]));rw[hd];go_wp2;go_ret;exact⟨rfl,bq⟩
open Go.RowKit Go.Shelf
attribute [local go_sem] ZT
def mk(D:Nat):Deferred:={ target:=.collected D,args:=#[] }
def Mks(n₀:Nat)(Ds:List Nat)(w:World):Prop:=(∀D∈Ds,n₀≤D∧w.heap[D]?=some (.deferred (some [])))∧Ds.Nodup
theorem Mks.below{n₀:Nat}{Ds:List Nat}{w w':World}(h:Mks n₀ Ds w)(hb:Below w.heap.size w w'):Mks n₀ Ds w' :=
 ⟨fun D hD=>⟨(h.1 D hD).1,(hb.block D (Zb (h.1 D hD).2)).trans (h.1 D hD).2⟩,h.2⟩
theorem Mks.cons{n₀:Nat}{f:List Nat}{w w':World}(h:Mks n₀ f w)(hb:Below w.heap.size w w'){D:Nat}(q:n₀≤w.heap.size)(j:w.heap.size≤D)(m:w'.heap[D]?=some (.deferred (some []))):Mks n₀ (D::f) w':=by
 have g:=h.below hb;refine⟨fun D' hD'=>?_,List.nodup_cons.2 ⟨fun hm=>?_,g.2⟩⟩
 ·rcases ZR.1 hD' with rfl|hm
  ·exact⟨Zm q j,m⟩
  exact g.1 D' hm
 have:=Zb (h.1 D hm).2;omega
theorem Mks.set{n₀:Nat}{Ds:List Nat}{w:World}(h:Mks n₀ Ds w)(p:Addr)(v:Value):Mks n₀ Ds (w.setCell p v) :=
 ⟨fun D hD=>⟨(h.1 D hD).1,(KeepsOthers.setCell _ _ _).same D _ (h.1 D hD).2 rfl⟩,h.2⟩
theorem Qp{F:Fence}{n:Nat}{P:Program}{fn:Func}{tmps:Array Value}{R:Ending→World→Prop}{n₀:Nat}:∀(Ds:List Nat)(w:World),Mks n₀ Ds w →
  (∀w',KC n₀ w w'→LeavesInM F n P fn tmps R [] .returning w')→LeavesInM F n P fn tmps R (Ds.map mk) .returning w
 | [],w,_,h=>h w (KC.refl _ _)
 | D::Ds,w,hM,h=>by
  have hD:=hM.1 D (by simp);have hk:=KC.putObj (n₀:=n₀) w D _ (.deferred none) hD.1 hD.2 rfl;refine⟨by simp,.inl ⟨_,_,rfl,run_takeDeferred hD.2,?_⟩⟩;refine Qp Ds _ ⟨fun D' hD'=>⟨(hM.1 D' (by simp[hD'])).1,?_⟩,(List.nodup_cons.1 hM.2).2⟩ (fun w' hw'=>h w' (hk.trans hw'));have hne:D'≠D:=fun e=>(List.nodup_cons.1 hM.2).1 (e▸hD')
  exact((grownBy_putObj' w D (.deferred none)).block D' (Zb (hM.1 D' (by simp[hD'])).2) (by intro e;injection e with e;exact hne e)).trans (hM.1 D' (by simp[hD'])).2
def Zet(W:World)(b:Nat)(p:PG)(an ai af ao:Option Addr)(cn ci cf co:Nat):Prop:=W.heap[b]?=some (.cells #[.slice an p.nodes.length cn,.slice ai p.ins.length ci,.slice af p.flows.length cf,.slice ao p.outs.length co] 27 (0,0))
def ZfF(p:PG)(l:List (Int × Int))(x:Ending):Prop:=(∃a e,e≠0∧x=.returned (.tuple #[.int .i64 a,.int .i64 e]))∨(x=.returned (.tuple #[.int .i64 0,.int .i64 0])∧∃env,UI p env∧l=p.flows.map (fun f=>Jv env f.nm))
def CkA(w:World)(p:PG)(x:Ending)(w':World):Prop :=
 ((∃a e,e≠0∧(e != 0)=true∧x=.returned (.tuple #[.slice none 0 0,.int .i64 a,.int .i64 e]))∨∃l' b' env,x=.returned (.tuple #[.slice (some ⟨b',0,none⟩) l'.length l'.length,.int .i64 0,.int .i64 0])∧UI p env∧p.flows.map (fun f=>Jv env f.nm)=l'∧b'<w'.heap.size∧yw w' b' l'∧l'.length≤1000)∧Below w.heap.size w w'
theorem vy{w:World}(p:PG)(an j g m:Option Addr)(z y q A:Nat)(F:AP w p an j g m z y q A)(H:NZ w p.nodes an)(f:JX p) :
  Calls prog 92 #[pv p an j g m z y q A] w (CkA w p):=by
 refine(eF p an j g m z y q A F H f).mono ?_;rintro x I ⟨⟨a,e,E,rfl⟩|⟨v,env,rfl,C,b,rfl,hb,G⟩,D⟩
 ·exact⟨.inl ⟨a,e,E,bne_iff_ne.2 E,rfl⟩,D⟩
 exact⟨.inr ⟨_,b,env,rfl,C,rfl,hb,G,by rw[Zo];have:=f.lens;omega⟩,D⟩
theorem Zbx{w:World}(p:PG)(an J F L:Option Addr)(O M G R:Nat)(hp:AP w p an J F L O M G R)(hz:NZ w p.nodes an)(H:JX p)(l:List (Int × Int))(bc:Nat)(az:bc<w.heap.size)(hl:l.length≤1000)(hc:yw w bc l) :
  Calls prog 53 #[pv p an J F L O M G R,.slice (some ⟨bc,0,none⟩) l.length l.length] w fun x w'=>ZfF p l x∧Below w.heap.size w w':=by
 have ab:=hid (fun(w':World) (hb:Below w.heap.size w w')=>vy (w:=w') p an J F L O M G R (hp.below hb) (hz.below hp.nodes hb) H);have av:=hid (fun(w':World) (hb:Below w.heap.size w w')=>Qz hb p an J F L O M G R hp);have bs:=H.lens;have ba:=H.flows;have HC:=hid (show ∀w':World,Below w.heap.size w w'→yw w' bc l from fun w' hb i h=>⟨(hb.cell (p:=⟨bc,i*2,none⟩) az).trans (hc i h).1,(hb.cell (p:=⟨bc,i*2+1,none⟩) az).trans (hc i h).2⟩);have HP:=hid hp;obtain⟨nodes,ins,g,v⟩:=p;have au:=hid ba;clear hp hz H hc ba;unfold pv CkA at *;simp only at ab av bs au ⊢;refine(Zt (n:=6)).1 ?_;refine callsIn_of_wp_marks func53 rfl trivial ?_ rfl;simp only[ntmps53,ZI,Zp,Zw,Nat.reduceAdd,Nat.reduceSub,ZF,ZE,ZL,ZJ,ZM,ZC];gi_wp2_with (refine⟨trivial,?_⟩;first|(gi_at_call 92;refine(Zt.2 (ab.out _ bq)).mono ?_;rintro x w1 ⟨hx,hb1⟩;obtain⟨br,T⟩:=YC hb1;have b1:=hb1.size;simp only[Zu] at b1;have aa:Zet w1 w.heap.size ⟨nodes,ins,g,v⟩ an J F L O M G R:=(hb1.block _ (by simp;omega)).trans ((Za _ _ _ (by simp;omega)).trans ((Za _ _ _ (by simp)).trans (Yw w _)));have ag:Boxed w1 (w.heap.size+1) 3 (.int .i64 0):=(hb1.block _ (by simp)).trans ((Za _ _ _ (by simp)).trans (by simpa using Yw (w.alloc _) _));have aj:Boxed w1 (w.heap.size+1+1) 38 (.int .i64 0):=(hb1.block _ (by simp)).trans (by simpa using Yw ((w.alloc _).alloc _) _);rcases hx with ⟨a2,e2,he2,he3,rfl⟩|⟨l',b',env,rfl,hcf,hl',hb',hrow,hl''⟩)|(gi_at_call 93;refine(Zt.2 (Gq l' l b' bc hb' oq hrow (HC.out _ bq) hl'' hl)).mono ?_;rintro x w2 ⟨rfl,hb2⟩;have al:Below w.heap.size w w2:=bq;have b2:=hb2.size;have U:Zet w2 w.heap.size ⟨nodes,ins,g,v⟩ an J F L O M G R:=(hb2.block _ oq).trans aa;have z:Boxed w2 (w.heap.size+1) 3 (.int .i64 0):=(hb2.block _ oq).trans ag;have A:Boxed w2 (w.heap.size+1+1) 38 (.int .i64 0):=(hb2.block _ oq).trans aj;obtain⟨⟨x0,x1,x2,x3⟩,xf⟩:=Yx U;have cA:=z.cell;have fA:=z.frozen;have cE:=A.cell;have fE:=A.frozen;clear hb1 hb2 br T aa ag aj;cases hd:decide (l'=l)))
 ·have ah:=((ag.set (.int .i64 a2)).other (show w.heap.size+1≠w.heap.size+1+1 by omega) (.int .i64 e2)).cell;have ak:=((aj.other (show w.heap.size+1+1≠w.heap.size+1 by omega) (.int .i64 a2)).set (.int .i64 e2)).cell;refine⟨.tuple #[.int .i64 a2,.int .i64 e2],?_,?_,?_⟩
  ·simp only[results,results53];go_simp
  ·exact .inl ⟨a2,e2,he2,rfl⟩
  exact bq
 ·have ah:=((z.set (.int .i64 0)).other (show w.heap.size+1≠w.heap.size+1+1 by omega) (.int .i64 12)).cell;have ak:=((A.other (show w.heap.size+1+1≠w.heap.size+1 by omega) (.int .i64 0)).set (.int .i64 12)).cell;refine⟨.tuple #[.int .i64 0,.int .i64 12],?_,?_,?_⟩
  ·simp only[results,results53];go_simp
  ·exact .inl ⟨0,12,by decide,rfl⟩
  exact(al.setCell (p:=⟨w.heap.size+1,0,none⟩) (by simp) _).setCell (p:=⟨w.heap.size+1+1,0,none⟩) (by simp;omega) _
 have bb:l'=l:=Yj hd;subst bb;have ar:=hid (show ZfF ⟨nodes,ins,g,v⟩ l' (.returned (.tuple #[.int .i64 0,.int .i64 0])) from .inr ⟨rfl,env,hcf,hl'.symm⟩);have HB2:=hid al;have bm:=hid U;have bh:=hid z;have bk:=hid A;clear hcf hl' al U z A x0 x1 x2 x3 xf cA fA cE fE hrow hd hl'' ab;have bw:w.heap.size+3≤w2.heap.size:=oq;refine wpIn_loop (fun a' wr=>∃(u9 u29 u30 u31 u32 u33 u34 u43:Value)(i:Nat)(Ds:List Nat),(i≤g.length∧Mks w.heap.size Ds wr∧Below w2.heap.size w2 wr)∧a'={ tmps:=#[.agg #[.slice an nodes.length O,.slice J ins.length M,.slice F g.length G,.slice L v.length R],.slice (some ⟨bc,0,none⟩) l'.length l'.length,.pointer (some ⟨w.heap.size,0,none⟩),undef,.pointer (some ⟨w.heap.size+1,0,none⟩),.pointer (some ⟨w.heap.size+1+1,0,none⟩),.slice (some ⟨b',0,none⟩) l'.length l'.length,.int .i64 0,.int .i64 0,u9,undef,.tuple #[.slice (some ⟨b',0,none⟩) l'.length l'.length,.int .i64 0,.int .i64 0],.agg #[.slice an nodes.length O,.slice J ins.length M,.slice F g.length G,.slice L v.length R],.tuple #[.slice (some ⟨b',0,none⟩) l'.length l'.length,.int .i64 0,.int .i64 0],.slice (some ⟨b',0,none⟩) l'.length l'.length,.int .i64 0,.int .i64 0,.int .i64 0,.bool false,undef,undef,.slice (some ⟨b',0,none⟩) l'.length l'.length,.slice (some ⟨bc,0,none⟩) l'.length l'.length,.bool true,.bool false,.pointer (some ⟨w.heap.size,2,none⟩),.slice F g.length G,.int .i64 (g.length:Int),.int .i64 (i:Int),u29,u30,u31,u32,u33,u34,undef,undef,undef,undef,undef,undef,undef,undef,u43],defers:=Ds.map mk }) (fun a' _=>g.length-(intOf (a'.tmps.getD 28 undef)).toNat) ⟨_,_,_,_,_,_,_,_,0,[],⟨Zk _,⟨by simp,List.nodup_nil⟩,Zg _ _⟩,rfl⟩ ?_;rintro _ wr ⟨u9,u29,u30,u31,u32,u33,u34,u43,i,Ds,⟨hi,hM,E⟩,rfl⟩;dsimp only;have bx:=E.size;have HM:=hid hM;have HBW:=hid (HB2.out.trans (E.mono oq));have hA:=(E.block _ oq).trans bh.out;have hE:=(E.block _ oq).trans bk.out;have be:=(E.block _ oq).trans bm.out;have bi:=hid E;have z:Boxed wr (w.heap.size+1) 3 (.int .i64 0):=hA;have A:Boxed wr (w.heap.size+1+1) 38 (.int .i64 0):=hE;clear hM E hA hE;by_cases bd:i<g.length
 ·have ch:(i:Int)<(g.length:Int):=oq;obtain⟨⟨x0,x1,x2,x3⟩,xf⟩:=Yx be;obtain⟨T,am⟩:=au.out _ (Zi bd);obtain⟨f,hf⟩:=ez (g[i]);have I:=hid (av.out wr HBW.out i bd oq);rw[hf] at I T am;obtain⟨cc,⟨k1,nm1,n1,d1,m,a1⟩,fa⟩:=f;unfold PE.sz at T;have bl:=hid am;have ce:=Vi (i:=i) oq;unfold spv at I;simp only at I T;clear hf am be;gi_wp2_with (refine⟨trivial,?_⟩;first|(gi_at_call 95;refine(Zt.2 I.out).mono ?_;rintro x Z ⟨⟨C,q,rfl,ay⟩,hb3⟩)|(gi_at_call 94;refine(Zt.2 (Gi (w:=Z) ⟨k1,nm1,n1,d1,m,a1⟩ C q (dg i))).mono ?_;rintro x w4 ⟨rfl,rfl⟩));have bn:=hid (show Qv w ⟨k1,nm1,n1,d1,m,a1⟩ C q (dg i) from ⟨ay,bl.out,by show(dg i).size+3*m.sz≤500;omega,by show m.sz<100;omega⟩);have bX:=Yw Z (.cells #[.int .i64 k1,.string nm1,.int .i64 n1,.int .i64 d1,.slice C m.len q,.int .i64 a1,.string (dg i)] 184);have hb4:Below wr.heap.size wr (Z.alloc (.cells #[.int .i64 k1,.string nm1,.int .i64 n1,.int .i64 d1,.slice C m.len q,.int .i64 a1,.string (dg i)] 184)):=hb3.alloc hb3.size _;have bg:(Z.alloc (.cells #[.int .i64 k1,.string nm1,.int .i64 n1,.int .i64 d1,.slice C m.len q,.int .i64 a1,.string (dg i)] 184)).heap.size=Z.heap.size+1:=by simp
  have cj:=hb3.size;obtain⟨W1,ax⟩:=ez (Z.alloc (.cells #[.int .i64 k1,.string nm1,.int .i64 n1,.int .i64 d1,.slice C m.len q,.int .i64 a1,.string (dg i)] 184));rw[ax] at bX hb4 bg ⊢;have HB4:=hid hb4;have bo:=hid (show Below w.heap.size w W1 from HBW.out.trans (hb4.mono oq));have V:w.heap.size≤W1.heap.size:=oq;have bj:=hid bX;clear ax hb4 ay hb3 bX z A x0 x1 x2 x3 xf I;refine wpIn_rangeFunc_ownH (encs:=fun x:VS w=>#[.agg #[.int .i64 x.s.1.k,.string x.s.1.nm,.int .i64 x.s.1.n,.int .i64 x.s.1.d,.slice x.ad x.s.1.args.len x.cap,.int .i64 x.s.1.a,.string x.s.2]]) rfl oq (gf:=127) (lb:=#[.pointer (some ⟨Z.heap.size,0,none⟩)]) rfl trivial (enters_of func127 kq rfl)
   (Ug (W0:=w) Fence.wide rfl trivial trivial trivial rfl (G1 w) _ Z.heap.size ⟨k1,nm1,n1,d1,m,a1⟩ C q (dg i) bn.out W1 W1.heap.size (Zc _) bo.out bj.out) (fun h k=>h.trans k) (fun W l o o' hl h hc _=>KF.putObj W l o o' oq h hc) (Zg _ _) (fun _=>rfl)
   (fun pre W=>Below W1.heap.size W1 W)
   (fun c pre W=>False)
   (ownFrom_below (Zc _) (Zc _))
   (fun c s X Y row hs _ _=>hs.elim)
   (Zg _ _)
   (fun x a' W=>∃Bx,W1.heap.size≤Bx∧W.heap[Bx]?=some (.cells #[.int .i64 x.s.1.k,.string x.s.1.nm,.int .i64 x.s.1.n,.int .i64 x.s.1.d,.slice x.ad x.s.1.args.len x.cap,.int .i64 x.s.1.a,.string x.s.2] 184 (0,0)) ∧
    ∃j:Array Value,a'={ tmps:=#[j.getD 0 undef,j.getD 1 undef,j.getD 2 undef,j.getD 3 undef,j.getD 4 undef,j.getD 5 undef,j.getD 6 undef,j.getD 7 undef,j.getD 8 undef,j.getD 9 undef,.pointer (some ⟨Bx,0,none⟩),j.getD 11 undef,j.getD 12 undef,j.getD 13 undef,j.getD 14 undef,j.getD 15 undef,j.getD 16 undef,j.getD 17 undef,j.getD 18 undef,j.getD 19 undef,j.getD 20 undef,j.getD 21 undef,j.getD 22 undef,j.getD 23 undef,j.getD 24 undef,j.getD 25 undef,j.getD 26 undef,j.getD 27 undef,j.getD 28 undef,j.getD 29 undef,j.getD 30 undef,j.getD 31 undef,j.getD 32 undef,j.getD 33 undef,j.getD 34 undef,j.getD 35 undef,j.getD 36 undef,j.getD 37 undef,j.getD 38 undef,j.getD 39 undef,j.getD 40 undef,j.getD 41 undef,j.getD 42 undef,j.getD 43 undef],defers:=[] })
   (fun x a' _ X Y row hs hg hrw=>by
    obtain⟨Bx,h1,h2,h3⟩:=hs;refine⟨Bx,h1,(hg.block Bx (Zq.1 h2).1 (fun e=>?_)).trans h2,h3⟩;obtain⟨_,o,ho,hc⟩:=hrw Bx e.symm;rw[h2] at ho;cases ho;cases hc)
   ?assign ?body ?done ?stop
  case assign =>
   rintro l pre x W K y hK;gi_wp2;exact hK _ _ ((KeepsOthers.alloc _ _).from _) ((KF.refl _ _ W).alloc (Zm V y.size) _) (y.alloc y.size _) ⟨W.heap.size,y.size,Yw W _,⟨#[.agg #[.slice an nodes.length O,.slice J ins.length M,.slice F g.length G,.slice L v.length R],.slice (some ⟨bc,0,none⟩) l'.length l'.length,.pointer (some ⟨w.heap.size,0,none⟩),undef,.pointer (some ⟨w.heap.size+1,0,none⟩),.pointer (some ⟨w.heap.size+1+1,0,none⟩),.slice (some ⟨b',0,none⟩) l'.length l'.length,.int .i64 0,.int .i64 0,.int .i64 (i:Int),undef,.tuple #[.slice (some ⟨b',0,none⟩) l'.length l'.length,.int .i64 0,.int .i64 0],.agg #[.slice an nodes.length O,.slice J ins.length M,.slice F g.length G,.slice L v.length R],.tuple #[.slice (some ⟨b',0,none⟩) l'.length l'.length,.int .i64 0,.int .i64 0],.slice (some ⟨b',0,none⟩) l'.length l'.length,.int .i64 0,.int .i64 0,.int .i64 0,.bool false,undef,undef,.slice (some ⟨b',0,none⟩) l'.length l'.length,.slice (some ⟨bc,0,none⟩) l'.length l'.length,.bool true,.bool false,.pointer (some ⟨w.heap.size,2,none⟩),.slice F g.length G,.int .i64 (g.length:Int),.int .i64 (i:Int),.bool true,.int .i64 (i:Int),.agg #[.slice an nodes.length O,.slice J ins.length M,.slice F g.length G,.slice L v.length R],.int .i64 (i:Int),.agg #[.int .i64 k1,.string nm1,.int .i64 n1,.int .i64 d1,.slice C m.len q,.int .i64 a1,.string (dg i)],.func (.func 127) #[] #[.pointer (some ⟨Z.heap.size,0,none⟩)],.agg #[.int .i64 x.s.1.k,.string x.s.1.nm,.int .i64 x.s.1.n,.int .i64 x.s.1.d,.slice x.ad x.s.1.args.len x.cap,.int .i64 x.s.1.a,.string x.s.2],undef,undef,undef,undef,undef,undef,undef,u43],rfl⟩⟩
  case body =>
   rintro l pre ⟨⟨⟨k2,bt,n2,d2,ae,a2⟩,bz⟩,bp,aw,H⟩ a' W hl ⟨r,hr⟩ y ⟨Bx,cd,ap,j,rfl⟩ bu;simp only at ap;obtain⟨⟨x0,x1,x2,x3,x4,x5,x6⟩,xf⟩:=Y7 ap;have bf:=y.size;have ac:=hid (uG (w:=W) ⟨k2,bt,n2,d2,ae,a2⟩ bp aw H.good);unfold ev at ac;simp only at ac;have aq:=hid y;clear y ap hr;gi_wp2_with (refine⟨trivial,?_⟩;gi_at_call 96;refine(CallsIn.inRound l (Zt.2 ac.out)).mono ?_;rintro e w5 ⟨rfl,hb5⟩);exact⟨⟨hb5.size,fun k o _ hk _=>(hb5.block k (Zb hk)).trans hk⟩,(KF.refl _ _ W).of_below hb5 (Zm V bf),aq.out.trans (hb5.mono bf)⟩
  case done =>
   rintro D zs W hD ck y hK;gi_wp2;rw[show((i:Int)+1)=((i+1:Nat):Int) by omega];refine⟨⟨_,_,_,_,_,_,_,_,i+1,D::Ds,⟨oq,HM.out.cons (HB4.out.trans (y.mono oq)) oq oq hK,bi.out.trans ((HB4.out.trans (y.mono oq)).mono oq)⟩,rfl⟩,by simp[intOf];omega⟩
  rintro D c pre W hD bv hf hK;exact hf.elim
 have cg:¬(i:Int)<(g.length:Int):=oq;have cA:=z.cell;have fA:=z.frozen;have cE:=A.cell;have fE:=A.frozen;gi_wp2;refine Qp Ds _ ((HM.out.set _ _).set _ _) (fun w' hk=>?_);have ah:=hk.same _ _ ((z.set (.int .i64 0)).other (show w.heap.size+1≠w.heap.size+1+1 by omega) (.int .i64 0)) rfl;have ak:=hk.same _ _ ((A.other (show w.heap.size+1+1≠w.heap.size+1 by omega) (.int .i64 0)).set (.int .i64 0)) rfl;have ca:=(show Boxed w' _ _ _ from ah).cell;have cb:=(show Boxed w' _ _ _ from ak).cell;refine⟨.tuple #[.int .i64 0,.int .i64 0],?_,?_,?_⟩
 ·simp only[results,results53];go_simp
 ·exact ar.out
 exact((HBW.out.setCell (p:=⟨w.heap.size+1,0,none⟩) (by simp) _).setCell (p:=⟨w.heap.size+1+1,0,none⟩) (by simp;omega) _).trans hk.below
def Zf0{α:Type}(F:Fence)(n:Nat)(P:Program)(g:Nat)(lb:Array Value)(encs:α→Array Value)(n₀ Bk:Nat)(S Sp:List α→Prop)(N:Nat)(w:World):Prop :=
 ∀(l:Nat)(J Jx:List α→World→Prop)(W:World),Below w.heap.size w W→OwnFrom W.heap.size J→OwnFrom W.heap.size Jx →
  (∀pre x W1,J pre W1→pre.length<N→YieldAt F (n-1) P l (encs x) W1 fun e W'=>(e=.returned (.bool true)∧J (pre++[x]) W'∧KF n₀ Bk W1 W'∧KeepsFrom W.heap.size W1 W')∨(e=.returned (.bool false)∧Jx (pre++[x]) W'∧KeepsFrom W.heap.size W1 W')) →
  J [] W→CallsIn F n P g (#[.func (.yield l) #[] #[]]++lb) W fun e W'=>(∃v,e=.returned v)∧((∃xs,S xs∧J xs W')∨(∃pre,Sp pre∧Jx pre W'))
theorem uz{α:Type}{F:Fence}{n:Nat}{P:Program}{g:Operand}{ps:Array Tmp}{assign body:Code}{Q:Exit→Act→World→Prop}{a:Act}{w:World}(ao:F.round=none)(h1:1≤n){gf:Nat}{lb:Array Value}
  (hg:a.eval g=.func (.func gf) #[] lb)(ah:F.fn gf)(eg:∀args w,(callFunc gf args).run P w=.ok (.enter gf args) w){encs:α→Array Value}{n₀ Bk:Nat}(hn:n₀≤w.heap.size){S Sp:List α→Prop}{N:Nat}
  (af:Zf0 F (n-1) P gf lb encs n₀ Bk S Sp N w)(an:∀x,(encs x).size=ps.size)(I Ix:List α→World→Prop)(Z:OwnFrom w.heap.size I)(L:OwnFrom w.heap.size Ix)(h0:I [] w)
  (Ax:α→Act→World→Prop)(ag:∀x E,OwnFrom w.heap.size (fun(_:Unit) W=>Ax x E W))
  (z:∀(l:Nat)(pre:List α)(x:α)(W:World)(K:Act→World→Prop),I pre W→(∀E W',Below W.heap.size W W'→I pre W'→Ax x E W'→K E W') →
   assign.wpIn (F.inRound l) (n-1-1) P (Exit.then K (fun _ _ _=>False)) { tmps:=(ps.zip (encs x)).foldl (fun t (p,v)=>t.setIfInBounds p v) a.tmps,defers:=[] } W)
  (M:∀(l:Nat)(pre:List α)(x:α)(E:Act)(W:World),w.heap.size≤l→(∃r,W.heap[l]?=some (.loop r))→I pre W→Ax x E W→pre.length<N →
   body.wpIn (F.inRound l) (n-1-1) P (ownPostG w.heap.size (KF n₀ Bk) I (fun c xs W=>c=.ret∧Ix xs W) (pre++[x]) W) E W)
  (T:∀(D:Nat)(xs:List α)(W:World),w.heap.size≤D→S xs→I xs W→W.heap[D]?=some (.deferred (some []))→Q .normal { a with defers:=mk D::a.defers } W)
  (Y:∀(D:Nat)(pre:List α)(W:World),w.heap.size≤D→Sp pre→Ix pre W→W.heap[D]?=some (.deferred (some []))→Code.ret.wpIn F n P Q { a with defers:=mk D::a.defers } W) :
  (Code.rangeFunc g ps assign body).wpIn F n P Q a w:=by
 refine wpIn_rangeFunc (fun fn hfn=>?_);rw[ao];let R:LoopState→Option Code→Loop:=fun st pe=>{ state:=st,pending:=pe,fn,tmps:=a.tmps,params:=ps,assign,body,defers:=w.heap.size }
 let W1:World:=(w.alloc (.deferred (some []))).alloc (.loop (R .ready none));have aq:W1.heap.size=w.heap.size+2:=by simp[W1]
 have hb1:Below w.heap.size w W1:=((Zg _ w).alloc (Zc _) _).alloc (by simp) _;have hL:W1.heap[w.heap.size+1]?=some (.loop (R .ready none)):=by
  have:=World.alloc_heap_new (w.alloc (.deferred (some []))) (.loop (R .ready none))
  rwa [Zu] at this
 have hD:W1.heap[w.heap.size]?=some (.deferred (some [])):=(Za _ _ _ (by simp)).trans (World.alloc_heap_new w _);refine⟨w.heap.size+1,[mk w.heap.size],W1,{ target:=.fn (.func gf) lb,args:=#[.func (.yield (w.heap.size+1)) #[] #[]] },W1,gf,#[.func (.yield (w.heap.size+1)) #[] #[]]++lb,W1,run_enterLoop_outer _ _ _ _ _,?_,?_,?_,fun _=>h1,?_⟩
 ·simp only[resolve,hg];simp[go_sem]
 ·intro f' aa;simp[Target.leads] at aa;subst aa;exact ah
 ·simp[invoke,go_sem,eg]
 have q:∀{A B:World}{row:Option Nat}{k:Nat}{o:Obj},A.grownBy B row→(∀r,row=some r→W1.heap.size≤r∧∃o:Obj,A.heap[r]?=some o∧o.isCells=false)→k<W1.heap.size→A.heap[k]?=some o→B.heap[k]?=some o:=by
  intro A B row k o f y V ho;refine(f.block k (Zq.1 ho).1 (fun e=>?_)).trans ho;have:=(y k e.symm).1;omega
 have J:∀{A:World}{row:Option Nat},(∀r,row=some r→W1.heap.size≤r∧∃o:Obj,A.heap[r]?=some o∧o.isCells=false)→(∀r,row=some r→w.heap.size≤r∧∃o:Obj,A.heap[r]?=some o∧o.isCells=false) :=
  fun y r e=>⟨by have:=(y r e).1;omega,(y r e).2⟩
 refine(af (w.heap.size+1) (fun pre W=>(I pre W∧W.heap[w.heap.size+1]?=some (.loop (R .ready none)))∧W.heap[w.heap.size]?=some (.deferred (some [])))
  (fun pre W=>(Ix pre W∧W.heap[w.heap.size+1]?=some (.loop (R .done (some .ret))))∧W.heap[w.heap.size]?=some (.deferred (some []))) W1 hb1
  (fun s A B row hs f y=>⟨⟨Z s A B row hs.1.1 f (J y),q f y oq hs.1.2⟩,q f y oq hs.2⟩)
  (fun s A B row hs f y=>⟨⟨L s A B row hs.1.1 f (J y),q f y oq hs.1.2⟩,q f y oq hs.2⟩) ?_ ⟨⟨Z.alloc _ (Z.alloc _ h0),hL⟩,hD⟩).mono ?_
 ·rintro pre x W ⟨⟨hi,G⟩,V⟩ ae;refine⟨fn,_,assign,body,run_yield (P:=P) (args:=encs x) G (an x),roundIn_of_wpIn hfn (z _ pre x W _ hi (fun E Wa hba hia hax=>?_))⟩;have C:=(hba.block _ (Zq.1 G).1).trans G;have al:=(hba.block _ (Zq.1 V).1).trans V;have am:w.heap.size+1<Wa.heap.size:=(Zq.1 C).1;have ap:w.heap.size+1<W.heap.size:=(Zq.1 G).1;refine⟨_,run_beginRound C rfl,?_⟩;have X:(Wa.putObj (w.heap.size+1) (.loop { R .ready none with state:=.busy })).heap[w.heap.size+1]?=some (.loop { R .ready none with state:=.busy }):=World.putObj_heap_same am;have ab:(Wa.putObj (w.heap.size+1) (.loop { R .ready none with state:=.busy })).heap[w.heap.size]?=some (.deferred (some [])):=(World.putObj_heap_other oq).trans al;have ai:KF n₀ Bk W Wa:=(KF.refl n₀ Bk W).of_below hba oq;have aj:KF n₀ Bk W (Wa.putObj (w.heap.size+1) (.loop { R .ready none with state:=.busy })):=ai.trans (KF.putObj _ _ _ _ oq C rfl);have H:KeepsFrom W1.heap.size W (Wa.putObj (w.heap.size+1) (.loop { R .ready none with state:=.busy })):=⟨by simpa using hba.size,fun k o hk1 hko _=>(World.putObj_heap_other oq).trans ((hba.block k (Zq.1 hko).1).trans hko)⟩;refine wpIn_mono (M _ pre x E _ oq ⟨_,X⟩ (Z.putObj _ hia oq C rfl) ((ag x E).putObj (s:=()) _ hax oq C rfl) ae) ?_;rintro e a3 W3 hp
  cases e with
  | normal =>
   obtain⟨j,ac,U⟩:=hp;have m:=j.same _ _ oq X rfl;have O:=j.same _ _ (Zc _) ab rfl;refine⟨_,_,run_endRound (P:=P) none m,.inl ⟨rfl,⟨⟨Z.putObj _ U oq m rfl,World.putObj_heap_same (Zq.1 m).1⟩,(World.putObj_heap_other oq).trans O⟩,(aj.trans ac).trans (KF.putObj _ _ _ _ oq m rfl),?_⟩⟩;exact⟨Zm (Zm H.size j.size) (by simp),fun k o hk1 hko hc=>(World.putObj_heap_other oq).trans (j.same _ _ oq (H.same k o hk1 hko hc) hc)⟩
  | ret =>
   obtain⟨j,_,U⟩:=hp;have m:=j.same _ _ oq X rfl;have O:=j.same _ _ (Zc _) ab rfl;refine⟨_,_,run_endRound (P:=P) (some .ret) m,.inr ⟨rfl,⟨⟨L.putObj _ U oq m rfl,World.putObj_heap_same (Zq.1 m).1⟩,(World.putObj_heap_other oq).trans O⟩,?_⟩⟩;exact⟨Zm (Zm H.size j.size) (by simp),fun k o hk1 hko hc=>(World.putObj_heap_other oq).trans (j.same _ _ oq (H.same k o hk1 hko hc) hc)⟩
  | exit id=>obtain⟨_,h,_⟩:=hp;cases h
  | goto t=>obtain⟨_,h,_⟩:=hp;cases h
  | panic ch=>exact hp.elim
  | outgrown=>exact hp.elim
 rintro e W2 ⟨⟨v,rfl⟩,(⟨xs,hS,⟨hi,G⟩,V⟩|⟨pre,ak,⟨hi,G⟩,V⟩)⟩
 ·exact⟨none,_,run_endLoop (P:=P) G (by simp[R]),T _ xs _ (Zc _) hS (Z.putObj _ hi oq G rfl) ((World.putObj_heap_other oq).trans V)⟩
 exact⟨some .ret,_,run_endLoop (P:=P) G (by simp[R]),Y _ pre _ (Zc _) ak (L.putObj _ hi oq G rfl) ((World.putObj_heap_other oq).trans V)⟩
attribute [local go_sem] ZT
def MkB(W:World)(m:Nat)(p:PG)(an ai af ao:Option Addr)(cn ci cf co:Nat)(mc mi mf mn mx:Nat):Prop :=
 W.heap[m]?=some (.cells #[.slice an p.nodes.length cn,.slice ai p.ins.length ci,.slice af p.flows.length cf,.slice ao p.outs.length co,.map (some mc),.map (some mi),.map (some mf),.map (some mn),.map (some mx)] 189 (0,0))
theorem Y4{w:World}{b:Nat}{f g j m q v x y z:Value}{t:TypeId}(h:w.heap[b]?=some (.cells #[f,g,j,m,q,v,x,y,z] t (0,0))) :
  (w.cell? ⟨b,0,none⟩=some f∧w.cell? ⟨b,1,none⟩=some g∧w.cell? ⟨b,2,none⟩=some j∧w.cell? ⟨b,3,none⟩=some m∧w.cell? ⟨b,4,none⟩=some q∧w.cell? ⟨b,5,none⟩=some v∧w.cell? ⟨b,6,none⟩=some x∧w.cell? ⟨b,7,none⟩=some y∧w.cell? ⟨b,8,none⟩=some z)∧∀o,w.frozen? ⟨b,o,none⟩=false:=by
 refine⟨⟨?_,?_,?_,?_,?_,?_,?_,?_,?_⟩,?_⟩
 all_goals first|(intro o;simp[World.frozen?,h])|simp[World.cell?,h]
theorem Uu{w:World}(m i:Nat):Calls prog 98 #[.pointer (some ⟨m,0,none⟩),.int .i64 (i:Int)] w fun x w' =>
  x=.returned (.func (.func 130) #[] #[.pointer (some ⟨w.heap.size,0,none⟩),.pointer (some ⟨w.heap.size+1,0,none⟩)]) ∧
   w'=(w.alloc (.cells #[.pointer (some ⟨m,0,none⟩)] 123)).alloc (.cells #[.int .i64 (i:Int)] 3):=by
 go_enter func98,ntmps98;go_wp2;go_ret;exact⟨rfl,rfl⟩
def isC(s:PE × ByteArray):Bool:=decide (s.1.k=2)
theorem uy{β:Type}{n₀ Bk:Nat}{W:World}(q:n₀≤W.heap.size):OwnFrom W.heap.size (fun(_:β) X=>KF n₀ Bk W X):=by
 intro s X Y row x m v;refine⟨ownFrom_below (β:=Unit) q q () X Y row x.below m v,fun k o hb hk hc=>?_⟩;have j:=x.same k o hb hk hc;refine(m.block k (Zq.1 j).1 (fun e=>?_)).trans j;obtain⟨_,y,g,f⟩:=v k e.symm;rw[j] at g
 cases g
 rw[Ev hc] at f
 cases f
theorem gA{β:Type}{B B':Nat}{I:β→World→Prop}(h:OwnFrom B I)(hb:B≤B'):OwnFrom B' I:=fun s X Y row hs hg hr=>h s X Y row hs hg (fun r e=>⟨Zm hb (hr r e).1,(hr r e).2⟩)
theorem qb{W0:World}(p:PG)(an ai af ao:Option Addr)(cn ci cf co:Nat)(hp:AP W0 p an ai af ao cn ci cf co)(T:JX p)(mc mi mf mn mx:Nat)(m B1 B2 i n l Bk:Nat)(hi:i<p.flows.length)(J Jx:List (VS W0)→World→Prop)(W:World)
  (hB:Below W0.heap.size W0 W)(bn:Bk≤W.heap.size)(hm:MkB W m p an ai af ao cn ci cf co mc mi mf mn mx)(hb1:Boxed W B1 123 (.pointer (some ⟨m,0,none⟩)))(hb2:Boxed W B2 3 (.int .i64 (i:Int)))(hJ:OwnFrom W.heap.size J)(av:OwnFrom W.heap.size Jx)
  (hY:∀pre x W1,J pre W1→pre.length<p.flows[i].e.args.sz+1→YieldAt Fence.wide (n-1) prog l (VS.vs x) W1 fun e W'=>(e=.returned (.bool true)∧J (pre++[x]) W'∧KF W0.heap.size Bk W1 W'∧KeepsFrom W.heap.size W1 W')∨(e=.returned (.bool false)∧Jx (pre++[x]) W'∧KeepsFrom W.heap.size W1 W'))
  (h0:J [] W) :
  CallsIn Fence.wide n prog 130 #[.func (.yield l) #[] #[],.pointer (some ⟨B1,0,none⟩),.pointer (some ⟨B2,0,none⟩)] W fun e W'=>(∃v,e=.returned v) ∧
   ((∃xs:List (VS W0),xs.map (·.s)=(YX p.flows[i].e (dg i)).filter isC∧J xs W')∨(∃pre:List (VS W0),pre.map (·.s) <+: (YX p.flows[i].e (dg i)).filter isC∧Jx pre W')):=by
 have I:=hid (fun(w':World) (hb:Below W0.heap.size W0 w')=>Qz hb p an ai af ao cn ci cf co hp i hi (by have:=T.lens;omega));obtain⟨aj,ak⟩:=T.flows _ (Zi hi);obtain⟨⟨k1,nm1,n1,d1,g,Z⟩,he⟩:∃e,p.flows[i].e=e:=⟨_,rfl⟩;rw[he] at I hY aj ak ⊢;unfold PE.sz at aj;have bi:=hid ak;have cc:=Vi (i:=i) (by have:=T.lens;omega);have HY:=hid hY;have bk:=hid hm;have HB:=hid hB;have HB1:=hid hb1;have HB2:=hid hb2;have HJ:=hid hJ;have aq:=hid av;have H0:=hid h0;obtain⟨⟨x0,x1,x2,x3,x4,x5,x6,x7,x8⟩,xf⟩:=Y4 (show W.heap[m]?=_ from hm);have c1:=hb1.cell;have c2:=hb2.cell;have bc:=hB.size;have bs:=Zb hm;have bp:=hb1.lt;have br:=hb2.lt;unfold pv spv at I;simp only at I aj;clear ak hY hm hB hb1 hb2 hJ av h0 he;refine(Zt (n:=n)).2 ((Zt (n:=6)).1 ?_);refine callsIn_of_wp_marks func130 rfl trivial ?_ rfl;simp only[ntmps130,ZI,Zp,Zw,Nat.reduceAdd,Nat.reduceSub,ZF,ZE,ZL,ZJ,ZM,ZC];gi_wp2;obtain⟨G,O⟩:=ez (W.alloc (.cells #[.func (.yield l) #[] #[]] 192));have hb3:Below W.heap.size W G:=by rw[←O];exact(Zg _ _).alloc (Zc _) _
 have au:Boxed G W.heap.size 192 (.func (.yield l) #[] #[]):=by rw[←O];exact Boxed.new _ _ _
 have cd:G.heap.size=W.heap.size+1:=by rw[←O];simp
 rw[O];clear O x0 x1 x2 x3 x4 x5 x6 x7 x8 xf c1 c2;obtain⟨⟨x0,x1,x2,x3,x4,x5,x6,x7,x8⟩,xf⟩:=Y4 ((hb3.block _ bs).trans bk.out);have c1:=(show Boxed G B1 _ _ from(hb3.block _ bp).trans HB1.out).cell;have c2:=(show Boxed G B2 _ _ from(hb3.block _ br).trans HB2.out).cell;have HB3:=hid hb3;have bh:=hid au;clear hb3 au;refine wpIn_wide.2 ?_;go_still_tail 5,kq
 change wpList _ _ _ _ _ G.drew
 have ah:Below G.heap.size G G.drew:=⟨rfl,rfl,rfl,Zc _,fun k _=>rfl⟩;go_wp2_with (first|(go_at_call 95;refine(I.out G.drew (HB.out.trans ((HB3.out.trans (ah.mono oq)).mono bc))).mono ?_;rintro x U ⟨⟨C,j,rfl,ax⟩,hb4⟩)|(go_at_call 94;refine(Gi (w:=U) ⟨k1,nm1,n1,d1,g,Z⟩ C j (dg i)).mono ?_;rintro x w5 ⟨rfl,rfl⟩));have bl:=hid (show Qv W0 ⟨k1,nm1,n1,d1,g,Z⟩ C j (dg i) from ⟨ax,bi.out,by show(dg i).size+3*g.sz≤500;omega,by show g.sz<100;omega⟩);have bX:=Yw U (.cells #[.int .i64 k1,.string nm1,.int .i64 n1,.int .i64 d1,.slice C g.len j,.int .i64 Z,.string (dg i)] 184);have bu:G.heap.size≤U.heap.size:=hb4.size;have hb5:Below G.heap.size G (U.alloc (.cells #[.int .i64 k1,.string nm1,.int .i64 n1,.int .i64 d1,.slice C g.len j,.int .i64 Z,.string (dg i)] 184)):=(ah.trans (show Below G.heap.size G.drew U from hb4)).alloc bu _;have bd:(U.alloc (.cells #[.int .i64 k1,.string nm1,.int .i64 n1,.int .i64 d1,.slice C g.len j,.int .i64 Z,.string (dg i)] 184)).heap.size=U.heap.size+1:=by simp
 obtain⟨L,aw⟩:=ez (U.alloc (.cells #[.int .i64 k1,.string nm1,.int .i64 n1,.int .i64 d1,.slice C g.len j,.int .i64 Z,.string (dg i)] 184));rw[aw] at bX hb5 bd ⊢;have y:Below W.heap.size W L:=HB3.out.trans (hb5.mono oq);have bm:=hid (show Below W0.heap.size W0 L from HB.out.trans (y.mono bc));have bg:=hid bX;have ap:=hid (show Boxed L W.heap.size 192 (.func (.yield l) #[] #[]) from(hb5.block _ oq).trans bh.out);have bf:=hid (show J [] L from HJ.out [] W L none H0.out ⟨y.os,y.tape,y.output,y.size,fun k hk _=>y.block k hk⟩ (fun r e=>by cases e));have bt:W0.heap.size≤L.heap.size:=oq;have az:W.heap.size≤L.heap.size:=oq;clear aw ax hb4 bX hb5 ah x0 x1 x2 x3 x4 x5 x6 x7 x8 xf c1 c2 I y;gi_wp2;refine wpIn_rangeFunc_ownH (encs:=fun x:VS W0=>#[.agg #[.int .i64 x.s.1.k,.string x.s.1.nm,.int .i64 x.s.1.n,.int .i64 x.s.1.d,.slice x.ad x.s.1.args.len x.cap,.int .i64 x.s.1.a,.string x.s.2]]) rfl oq (gf:=127) (lb:=#[.pointer (some ⟨U.heap.size,0,none⟩)]) rfl trivial (enters_of func127 kq rfl)
  (Ug (W0:=W0) Fence.wide rfl trivial trivial trivial rfl (G1 W0) _ U.heap.size ⟨k1,nm1,n1,d1,g,Z⟩ C j (dg i) bl.out L Bk oq bm.out bg.out) (fun h k=>h.trans k) (fun W l o o' hl h hc _=>KF.putObj W l o o' oq h hc) (Zg _ _) (fun _=>rfl)
  (fun pre X=>KF W0.heap.size Bk L X∧∃q:List (VS W0),J q X∧(q.map (·.s)=(pre.map (·.s)).filter isC∧q.length≤pre.length))
  (fun c pre X=>c=.ret∧∃q:List (VS W0),Jx q X∧q.map (·.s)=(pre.map (·.s)).filter isC)
  (OwnFrom.and (uy bt) (fun s X Y row hs hg hr=>by obtain⟨q,h1,h2⟩:=hs;exact⟨q,(gA HJ.out az) q X Y row h1 hg hr,h2⟩))
  (fun c s X Y row hs hg hr=>by obtain⟨h0,q,h1,h2⟩:=hs;exact⟨h0,q,(gA aq.out az) q X Y row h1 hg hr,h2⟩)
  ⟨KF.refl _ _ _,[],bf.out,rfl,Zc _⟩
  (fun x a' X=>∃Bx,L.heap.size≤Bx∧X.heap[Bx]?=some (.cells #[.int .i64 x.s.1.k,.string x.s.1.nm,.int .i64 x.s.1.n,.int .i64 x.s.1.d,.slice x.ad x.s.1.args.len x.cap,.int .i64 x.s.1.a,.string x.s.2] 184 (0,0)) ∧
   a'={ tmps:=#[.func (.yield l) #[] #[],.pointer (some ⟨B1,0,none⟩),.pointer (some ⟨B2,0,none⟩),.pointer (some ⟨W.heap.size,0,none⟩),.pointer (some ⟨Bx,0,none⟩),.pointer (some ⟨m,0,none⟩),.pointer (some ⟨m,0,none⟩),.pointer (some ⟨m,0,none⟩),.agg #[.slice an p.nodes.length cn,.slice ai p.ins.length ci,.slice af p.flows.length cf,.slice ao p.outs.length co],.int .i64 (i:Int),.agg #[.int .i64 k1,.string nm1,.int .i64 n1,.int .i64 d1,.slice C g.len j,.int .i64 Z,.string (dg i)],.func (.func 127) #[] #[.pointer (some ⟨U.heap.size,0,none⟩)],.agg #[.int .i64 x.s.1.k,.string x.s.1.nm,.int .i64 x.s.1.n,.int .i64 x.s.1.d,.slice x.ad x.s.1.args.len x.cap,.int .i64 x.s.1.a,.string x.s.2],undef,undef,undef,undef,undef,undef,undef,undef,undef,undef],defers:=[] })
  (fun x a' _ X Y row hs hg hrw=>by
   obtain⟨Bx,h1,h2,h3⟩:=hs;refine⟨Bx,h1,(hg.block Bx (Zq.1 h2).1 (fun e=>?_)).trans h2,h3⟩;obtain⟨_,o,ho,hc⟩:=hrw Bx e.symm;rw[h2] at ho;cases ho;cases hc)
  ?assign ?body ?done ?stop
 case assign =>
  rintro l2 pre x X K ⟨z,q,E,A⟩ hK;gi_wp2;have bb:=z.below.size;exact hK _ _ ((KeepsOthers.alloc _ _).from _) ((KF.refl _ _ X).alloc oq _) ⟨z.alloc oq _,q,HJ.out q X _ none E (World.grownBy_alloc X _ none) (fun r e=>by cases e),A⟩ ⟨X.heap.size,bb,Yw X _,rfl⟩
 case body =>
  rintro l2 pre ⟨⟨⟨k2,be,n2,d2,M,a2⟩,ac⟩,ar,aa,T⟩ a' X bz ⟨r,hr⟩ ⟨z,q,E,A,bv⟩ ⟨Bx,cb,am,rfl⟩ ab;simp only at am;obtain⟨⟨x0,x1,x2,x3,x4,x5,x6⟩,xf⟩:=Y7 am;have bb:L.heap.size≤X.heap.size:=z.below.size;have cY:=(show Boxed X W.heap.size _ _ from z.same _ _ bn ap.out rfl).cell;obtain⟨V,ag,bo⟩:∃V:VS W0,V=⟨(⟨k2,be,n2,d2,M,a2⟩,ac),ar,aa,T⟩∧V.vs=#[.agg #[.int .i64 k2,.string be,.int .i64 n2,.int .i64 d2,.slice ar M.len aa,.int .i64 a2,.string ac]]:=⟨_,rfl,rfl⟩;rw[←ag];by_cases al:k2=2
  ·subst al;have H:isC V.s=true:=by rw[ag];rfl
   have ca:pre.length<g.sz+1:=ab;obtain⟨fn,tmps,assign,body,hy,hR⟩:=YieldAt.deep (F:=Fence.wide) rfl 3 (HY.out q V X E (by show q.length<g.sz+1;omega));rw[bo] at hy;have HR:=hid hR;have bj:=hid z;clear hR hr am z ab;gi_wp2;refine RoundIn.mono (show RoundIn (Fence.wide.inRound l2) 3 _ _ _ _ _ _ _ _ from HR.out) ?_;rintro e w7 (⟨rfl,ae,ay,R⟩|⟨rfl,ae,R⟩)
   ·gi_wp2;exact⟨⟨R.size,fun k o hk ho hc=>R.same k o oq ho hc⟩,ay,bj.out.trans ay,q++[V],ae,by rw[ZU,ZU,List.filter_append,A];simp[H],by simp;omega⟩
   gi_wp2;exact⟨⟨R.size,fun k o hk ho hc=>R.same k o oq ho hc⟩,rfl,q++[V],ae,by rw[ZU,ZU,List.filter_append,A];simp[H]⟩
  have bx:(k2 == 2)=false:=ZY.2 al;have H:isC V.s=false:=by rw[ag];exact ZZ al
  gi_wp2
  repeat (refine⟨(fun(f:FuncId) (h:none=some f)=>by cases h),?_⟩;gi_wp2)
  exact⟨KeepsFrom.refl _ _,KF.refl _ _ _,z,q,E,by rw[ZU,List.filter_append,A];simp[H],by simp;omega⟩
 case done =>
  rintro D zs X hD bw ⟨z,q,E,A,bv⟩ hK;gi_wp2;refine⟨by simp,.inl ⟨_,_,rfl,run_takeDeferred hK,?_⟩⟩;refine⟨_,results_none rfl _ _ _,⟨_,rfl⟩,.inl ⟨q,by rw[A,bw],HJ.out.putObj _ E oq hK rfl⟩⟩
 rintro D c pre X hD ba ⟨rfl,q,E,A⟩ hK;gi_wp2;refine⟨by simp,.inl ⟨_,_,rfl,run_takeDeferred hK,?_⟩⟩;refine⟨_,results_none rfl _ _ _,⟨_,rfl⟩,.inr ⟨q,?_,aq.out.putObj _ E oq hK rfl⟩⟩;rw[A];exact ba.filter _
theorem QL:X8 117 9 62 (.agg #[.int .i64 0,.int .i64 0]):=⟨by kernel_rfl,by kernel_rfl,fun w=>by kernel_rfl,fun b s w=>by cases b<;>kernel_rfl⟩
theorem Q1:X8 186 9 3 (.int .i64 0):=⟨by kernel_rfl,by kernel_rfl,fun w=>by kernel_rfl,fun b s w=>by cases b<;>kernel_rfl⟩
theorem gO:X8 187 182 3 (.int .i64 0):=⟨by kernel_rfl,by kernel_rfl,fun w=>by kernel_rfl,fun b s w=>by cases b<;>kernel_rfl⟩
abbrev IE:=ByteArray→Option Nat
def VT(e:IE)(k:ByteArray)(j:Nat):IE:=fun nm=>if nm=k then some j else e nm
def inI:List ByteArray→Nat→IE→IE
 | [],_,e=>e
 | k::l,i,e=>inI l (i+1) (VT e k i)
def XK(L:List (ByteArray × Value))(e:IE):Prop:=∀nm,Xn nm L=(e nm).map (fun j=>.int .i64 (j:Int))
theorem XK.nil:XK [] (fun _=>none):=fun _=>rfl
theorem XK.put{L:List (ByteArray × Value)}{e:IE}(h:XK L e)(k:ByteArray)(j:Nat):XK (JJ k (.int .i64 (j:Int)) L) (VT e k j):=by
 intro g;rw[U1];unfold VT;by_cases f:g=k
 ·rw[Z2 f,Z2 f];rfl
 rw[Z1 f,Z1 f];exact h g
theorem Es:∀(l:List ByteArray)(i:Nat)(e:IE)(nm:ByteArray)(j:Nat),inI l i e nm=some j→(∃h:j-i<l.length,i≤j∧l[j-i]=nm)∨e nm=some j
 | [],i,e,nm,j,h=>.inr h
 | k::l,i,e,nm,j,h=>by
  rcases Es l (i+1) (VT e k i) nm j h with ⟨h1,h2,h3⟩|h1
  ·refine .inl ⟨by simp only[Zp];omega,oq,?_⟩;have he:j-i=(j-(i+1))+1:=oq;simp only[he,List.getElem_cons_succ];exact h3
  unfold VT at h1;by_cases hk:nm=k
  ·rw[Z2 hk] at h1;injection h1 with h1
   subst h1;refine .inl ⟨by simp,Zc _,?_⟩;simp[hk]
  rw[Z1 hk] at h1;exact .inr h1
theorem zS:∀(l:List ByteArray)(i:Nat)(e:IE)(nm:ByteArray),e nm≠none→inI l i e nm≠none
 | [],i,e,nm,h=>h
 | k::l,i,e,nm,h=>zS l (i+1) (VT e k i) nm (by
  unfold VT;by_cases hk:nm=k
  ·rw[Z2 hk];exact Option.some_ne_none _
  rw[Z1 hk];exact h)
theorem KI:∀(l:List ByteArray)(i:Nat)(e:IE)(nm:ByteArray),nm∈l→inI l i e nm≠none
 | k::l,i,e,nm,h=>by
  rcases ZR.1 h with rfl|h
  ·refine zS l (i+1) _ nm ?_;unfold VT;rw[Z2 rfl];exact Option.some_ne_none _
  exact KI l (i+1) _ nm h
def VE(env':Env):List FL→Env→Env
 | [],e=>e
 | f::l,e=>VE env' l (upd e f.nm (Jv env' f.nm))
structure MkS (W0:World) (n:Nat) (mk:Obj) (mc mi mf mn mx m:Nat) (W:World) (Lc Li Lf Ln:List (ByteArray × Value)):Prop where
 low:Below n W0 W
 ord:n≤mc∧mc<mi∧mi<mf∧mf<mn∧mn<mx∧mx<m
 box:W.heap[m]?=some mk
 c:YT W mc Lc
 i:YT W mi Li
 f:YT W mf Lf
 nd:YT W mn Ln
 x:YT W mx []
section
variable {W0:World} {n:Nat} {mk:Obj} {mc mi mf mn mx m:Nat} {W W':World} {Lc Li Lf Ln:List (ByteArray × Value)}
theorem MkS.lt(h:MkS W0 n mk mc mi mf mn mx m W Lc Li Lf Ln):m<W.heap.size:=Zb h.box
theorem MkS.grow(h:MkS W0 n mk mc mi mf mn mx m W Lc Li Lf Ln)(hb:Below W.heap.size W W'):MkS W0 n mk mc mi mf mn mx m W' Lc Li Lf Ln :=
 ⟨h.low.trans (hb.mono (by have:=h.lt;have:=h.ord;omega)),h.ord,(hb.block _ h.lt).trans h.box,h.c.below hb,h.i.below hb,h.f.below hb,h.nd.below hb,h.x.below hb⟩
theorem MkS.putC(h:MkS W0 n mk mc mi mf mn mx m W Lc Li Lf Ln){o:Obj}{L:List (ByteArray × Value)}(j:YT (World.putM W mc o) mc L):MkS W0 n mk mc mi mf mn mx m (World.putM W mc o) L Li Lf Ln:=by
 have g:Upon mc W (World.putM W mc o):=YR (Upon.refl _ _) _;have q:=h.ord;exact⟨QJ h.low oq _,q,(g.block _ h.lt oq).trans h.box,j,h.i.upon g oq,h.f.upon g oq,h.nd.upon g oq,h.x.upon g oq⟩
theorem MkS.putI(h:MkS W0 n mk mc mi mf mn mx m W Lc Li Lf Ln){o:Obj}{L:List (ByteArray × Value)}(j:YT (World.putM W mi o) mi L):MkS W0 n mk mc mi mf mn mx m (World.putM W mi o) Lc L Lf Ln:=by
 have g:Upon mi W (World.putM W mi o):=YR (Upon.refl _ _) _;have q:=h.ord;exact⟨QJ h.low oq _,q,(g.block _ h.lt oq).trans h.box,h.c.upon g oq,j,h.f.upon g oq,h.nd.upon g oq,h.x.upon g oq⟩
theorem MkS.putF(h:MkS W0 n mk mc mi mf mn mx m W Lc Li Lf Ln){o:Obj}{L:List (ByteArray × Value)}(g:YT (World.putM W mf o) mf L):MkS W0 n mk mc mi mf mn mx m (World.putM W mf o) Lc Li L Ln:=by
 have f:Upon mf W (World.putM W mf o):=YR (Upon.refl _ _) _;have j:=h.ord;exact⟨QJ h.low oq _,j,(f.block _ h.lt oq).trans h.box,h.c.upon f oq,h.i.upon f oq,g,h.nd.upon f oq,h.x.upon f oq⟩
theorem MkS.putN(h:MkS W0 n mk mc mi mf mn mx m W Lc Li Lf Ln){o:Obj}{L:List (ByteArray × Value)}(j:YT (World.putM W mn o) mn L):MkS W0 n mk mc mi mf mn mx m (World.putM W mn o) Lc Li Lf L:=by
 have g:Upon mn W (World.putM W mn o):=YR (Upon.refl _ _) _;have q:=h.ord;exact⟨QJ h.low oq _,q,(g.block _ h.lt oq).trans h.box,h.c.upon g oq,h.i.upon g oq,h.f.upon g oq,j,h.x.upon g oq⟩
end
theorem VD{W0:World}(p:PG)(an ai af ao:Option Addr)(cn ci cf co:Nat)(hp:AP W0 p an ai af ao cn ci cf co)(hok:JX p)(mc mi mf mn mx:Nat)(m B1 B2 i n:Nat)(hi:i<p.flows.length)(w:World)(Bk:Nat)(hBk:Bk≤w.heap.size)
  (hB:Below W0.heap.size W0 w)(hm:MkB w m p an ai af ao cn ci cf co mc mi mf mn mx)(hb1:Boxed w B1 123 (.pointer (some ⟨m,0,none⟩)))(hb2:Boxed w B2 3 (.int .i64 (i:Int))) :
  Zf0 Fence.wide n prog 130 #[.pointer (some ⟨B1,0,none⟩),.pointer (some ⟨B2,0,none⟩)] (fun x:VS W0=>x.vs) W0.heap.size Bk (fun xs=>xs.map (·.s)=(YX p.flows[i].e (dg i)).filter isC)
   (fun pre=>pre.map (·.s) <+: (YX p.flows[i].e (dg i)).filter isC) (p.flows[i].e.args.sz+1) w:=fun l J Jx W hW hJ hJx hY h0 =>
 qb p an ai af ao cn ci cf co hp hok mc mi mf mn mx m B1 B2 i n l Bk hi J Jx W (hB.trans (hW.mono hB.size)) (Zm hBk hW.size) ((hW.block m (Zb hm)).trans hm) ((hW.block B1 hb1.lt).trans hb1) ((hW.block B2 hb2.lt).trans hb2) hJ hJx hY h0
def ya(p:PG)(an ai af ao:Option Addr)(cn ci cf co:Nat)(mc mi mf mn mx:Nat):Obj :=
 .cells #[.slice an p.nodes.length cn,.slice ai p.ins.length ci,.slice af p.flows.length cf,.slice ao p.outs.length co,.map (some mc),.map (some mi),.map (some mf),.map (some mn),.map (some mx)] 189 (0,0)
def S6(m bx mc:Nat)(nm:ByteArray)(per ph fa:Int)(w':World):Prop :=
 w'.cell? ⟨m,4,none⟩=some (.map (some mc))∧w'.cell? ⟨bx,0,none⟩=some (.string nm)∧w'.cell? ⟨bx,1,none⟩=some (.int .i64 per)∧w'.cell? ⟨bx,2,none⟩=some (.int .i64 ph)∧w'.cell? ⟨bx,3,none⟩=some (.int .i64 fa)
def ZfV(w:World)(p:PG)(an ai af ao:Option Addr)(cn ci cf co:Nat)(env':Env)(x:Ending)(w':World):Prop :=
 ∃m mc mi mf mn mx Lc Li Lf Ln,x=.returned (.pointer (some ⟨m,0,none⟩))∧MkS w w.heap.size (ya p an ai af ao cn ci cf co mc mi mf mn mx) mc mi mf mn mx m w' Lc Li Lf Ln ∧
  XY Lc (VE env' p.flows (Xc p.ins))∧XK Li (inI (p.ins.map (·.nm)) 0 (fun _=>none))∧XK Lf (inI (p.flows.map (·.nm)) 0 (fun _=>none))∧XK Ln (inI (p.nodes.map (·.nm)) 0 (fun _=>none))
def GV(w:World)(p:PG)(an ai af ao:Option Addr)(cn ci cf co:Nat)(W:World)(Lc Li Lf Ln:List (ByteArray × Value)):Prop :=
 MkS w w.heap.size (ya p an ai af ao cn ci cf co (w.heap.size+1) (w.heap.size+1+1) (w.heap.size+1+1+1) (w.heap.size+1+1+1+1) (w.heap.size+1+1+1+1+1)) (w.heap.size+1) (w.heap.size+1+1) (w.heap.size+1+1+1) (w.heap.size+1+1+1+1) (w.heap.size+1+1+1+1+1) (w.heap.size+1+1+1+1+1+1) W Lc Li Lf Ln ∧
  W.heap[w.heap.size]?=some (.cells #[.slice an p.nodes.length cn,.slice ai p.ins.length ci,.slice af p.flows.length cf,.slice ao p.outs.length co] 27 (0,0))
def Nw1(w:World)(p:PG)(an ai af ao:Option Addr)(cn ci cf co:Nat)(v:Value)(wr:World):Prop :=
 ∃(i:Nat)(env:Env)(e:IE)(Lc Li:List (ByteArray × Value)),v=.int .i64 (i:Int)∧i≤p.ins.length∧GV w p an ai af ao cn ci cf co wr Lc Li [] []∧XY Lc env∧XK Li e∧J4 (p.ins.drop i) env=Xc p.ins∧inI ((p.ins.drop i).map (·.nm)) i e=inI (p.ins.map (·.nm)) 0 (fun _=>none)
def Nw2(w:World)(p:PG)(an ai af ao:Option Addr)(cn ci cf co:Nat)(env':Env)(Li:List (ByteArray × Value))(v:Value)(wr:World):Prop :=
 ∃(i:Nat)(env:Env)(e:IE)(Lc Lf:List (ByteArray × Value)),v=.int .i64 (i:Int)∧i≤p.flows.length∧GV w p an ai af ao cn ci cf co wr Lc Li Lf []∧XY Lc env∧XK Lf e∧VE env' (p.flows.drop i) env=VE env' p.flows (Xc p.ins)∧inI ((p.flows.drop i).map (·.nm)) i e=inI (p.flows.map (·.nm)) 0 (fun _=>none)
def Nw3(w:World)(p:PG)(an ai af ao:Option Addr)(cn ci cf co:Nat)(Lc Li Lf:List (ByteArray × Value))(v:Value)(wr:World):Prop :=
 ∃(i:Nat)(e:IE)(Ln:List (ByteArray × Value)),v=.int .i64 (i:Int)∧i≤p.nodes.length∧GV w p an ai af ao cn ci cf co wr Lc Li Lf Ln∧XK Ln e∧inI ((p.nodes.drop i).map (·.nm)) i e=inI (p.nodes.map (·.nm)) 0 (fun _=>none)
theorem cell0{w:World}{b:Nat}{v:Value}{vs:List Value}{t:TypeId}(h:w.heap[b]?=some (.cells (v::vs).toArray t (0,0))):w.cell? ⟨b,0,none⟩=some v∧∀o,w.frozen? ⟨b,o,none⟩=false:=by
 refine⟨by simp[World.cell?,h],fun o=>by simp[World.frozen?,h]⟩
theorem GV.grow{w:World}{p:PG}{an ai af ao:Option Addr}{cn ci cf co:Nat}{W W':World}{Lc Li Lf Ln:List (ByteArray × Value)}(h:GV w p an ai af ao cn ci cf co W Lc Li Lf Ln)(hb:Below W.heap.size W W'):GV w p an ai af ao cn ci cf co W' Lc Li Lf Ln :=
 ⟨h.1.grow hb,(hb.block _ (Zb h.2)).trans h.2⟩
theorem Zci(w:World)(p:PG)(an g f j:Option Addr)(v q m x:Nat):GV w p an g f j v q m x (((((((w.alloc (.cells #[.slice an p.nodes.length v,.slice g p.ins.length q,.slice f p.flows.length m,.slice j p.outs.length x] 27)).alloc (.map #[] 0)).alloc (.map #[] 0)).alloc (.map #[] 0)).alloc (.map #[] 0)).alloc (.map #[] 0)).alloc
  (ya p an g f j v q m x (w.heap.size+1) (w.heap.size+1+1) (w.heap.size+1+1+1) (w.heap.size+1+1+1+1) (w.heap.size+1+1+1+1+1))) [] [] [] []:=by
 obtain⟨A,y⟩:=ez (w.alloc (.cells #[.slice an p.nodes.length v,.slice g p.ins.length q,.slice f p.flows.length m,.slice j p.outs.length x] 27));have D:A.heap.size=w.heap.size+1:=by rw[←y];simp
 have z:Below w.heap.size w A:=by rw[←y];exact bq
 have C:A.heap[w.heap.size]?=some (.cells #[.slice an p.nodes.length v,.slice g p.ins.length q,.slice f p.flows.length m,.slice j p.outs.length x] 27 (0,0)):=by rw[←y];exact Yw w _
 rw[y];clear y;unfold GV;generalize ya p an g f j v q m x (w.heap.size+1) (w.heap.size+1+1) (w.heap.size+1+1+1) (w.heap.size+1+1+1+1) (w.heap.size+1+1+1+1+1)=mo;rw[←D];have E:=YT.new A;have F:=YT.new (A.alloc (.map #[] 0));have G:=YT.new ((A.alloc (.map #[] 0)).alloc (.map #[] 0));have H:=YT.new (((A.alloc (.map #[] 0)).alloc (.map #[] 0)).alloc (.map #[] 0));have I:=YT.new ((((A.alloc (.map #[] 0)).alloc (.map #[] 0)).alloc (.map #[] 0)).alloc (.map #[] 0));have J:=Yw (((((A.alloc (.map #[] 0)).alloc (.map #[] 0)).alloc (.map #[] 0)).alloc (.map #[] 0)).alloc (.map #[] 0)) mo;simp only[Zu] at E F G H I J;have up:∀(X:World)(o:Obj),Below X.heap.size X (X.alloc o):=fun X o=>(Zg _ _).alloc (Zc _) _
 refine⟨⟨?_,oq,J,?_,?_,?_,?_,I.below (up _ _)⟩,?_⟩
 ·exact z.trans (((((((Zg _ A).alloc oq _).alloc (by simp;omega) _).alloc (by simp;omega) _).alloc (by simp;omega) _).alloc (by simp;omega) _).alloc (by simp;omega) _)
 ·exact((((E.below (up _ _)).below (up _ _)).below (up _ _)).below (up _ _)).below (up _ _)
 ·exact(((F.below (up _ _)).below (up _ _)).below (up _ _)).below (up _ _)
 ·exact((G.below (up _ _)).below (up _ _)).below (up _ _)
 ·exact(H.below (up _ _)).below (up _ _)
 exact((((((Zg _ A).alloc (Zc _) _).alloc (by simp only[Zu];omega) _).alloc (by simp only[Zu];omega) _).alloc (by simp only[Zu];omega) _).alloc (by simp only[Zu];omega) _ |>.alloc (by simp only[Zu];omega) _).block _ oq |>.trans C
theorem xb{w:World}(p:PG)(an ai af ao:Option Addr)(cn ci cf co:Nat)(hp:AP w p an ai af ao cn ci cf co)(bo:JX p)(C:Env)(bc:Nat)(bh:bc<w.heap.size)(l:List (Int × Int))(hl:p.flows.map (fun f=>Jv C f.nm)=l)(hc:yw w bc l) :
  Calls prog 54 #[pv p an ai af ao cn ci cf co,.slice (some ⟨bc,0,none⟩) l.length l.length] w (ZfV w p an ai af ao cn ci cf co C):=by
 have ce:=bo.lens;have HP:=hid hp;have HC:=hid hc;have HL:=hid hl;have cb:=hp.caps;have az:l.length=p.flows.length:=by rw[←hl,Zo]
 have bk:=fun w=>run_makeMap (P:=prog) 117 w
 have bl:=fun w=>run_makeMap (P:=prog) 186 w
 have bm:=fun w=>run_makeMap (P:=prog) 187 w
 clear hp bo hc hl;unfold pv;rw[az];have bd:=hid az;clear az;go_enter func54,ntmps54;go_wp2;have aq:=Zci w p an ai af ao cn ci cf co;unfold ya at aq;obtain⟨W1,av⟩:∃W1,(((((((w.alloc (.cells #[.slice an p.nodes.length cn,.slice ai p.ins.length ci,.slice af p.flows.length cf,.slice ao p.outs.length co] 27)).alloc (.map #[] 0)).alloc (.map #[] 0)).alloc (.map #[] 0)).alloc (.map #[] 0)).alloc (.map #[] 0)).alloc
  (.cells #[.slice an p.nodes.length cn,.slice ai p.ins.length ci,.slice af p.flows.length cf,.slice ao p.outs.length co,.map (some (w.heap.size+1)),.map (some (w.heap.size+1+1)),.map (some (w.heap.size+1+1+1)),.map (some (w.heap.size+1+1+1+1)),.map (some (w.heap.size+1+1+1+1+1))] 189))=W1:=⟨_,rfl⟩
 rw[av] at aq
 try rw[av]
 have be:=hid (show GV w p an ai af ao cn ci cf co W1 [] [] [] [] from aq);clear aq av bk bl bm;go_loopw [23] (fun v wr=>Hid (Nw1 w p an ai af ao cn ci cf co v wr)) (fun i _=>p.ins.length-(intOf i).toNat)
 case atStart=>exact⟨0,fun _=>none,fun _=>none,[],[],rfl,Zk _,be.out,Zbu,XK.nil,rfl,rfl⟩
 obtain⟨i,env,e,Lc,Li,rfl,hi,R,hE,hI,A,j⟩:=hrel.out;clear hrel be;have HN:=hid R;have HE:=hid hE;have HI:=hid hI;have g:=R.1.low;have ah:=g.size;have ag:=Zb R.2;have ae:=R.1.lt;clear R hE hI;by_cases L:i<p.ins.length
 ·obtain⟨bb,oo,rfl,U,D⟩:=HP.out.ins.at L;have J:=D.later g U;rw[kN L] at A j;obtain⟨f,hf⟩:=ez (p.ins[i]);rw[hf] at J A j;obtain⟨nm,y,ph,fa⟩:=f;obtain⟨y0,y1,y2,y3,_⟩:=J;simp only at y0 y1 y2 y3;have au:=hid (show J4 (p.ins.drop (i+1)) (upd env nm (y,ph))=Xc p.ins from A);have ak:=hid (show inI ((p.ins.drop (i+1)).map (·.nm)) (i+1) (VT e nm i)=inI (p.ins.map (·.nm)) 0 (fun _=>none) from j);have ay:(i:Int)<(p.ins.length:Int):=oq;have bg:bb<wr.heap.size:=oq;clear D A j g;go_wp2;obtain⟨z,q⟩:=ez (wr.alloc (.cells #[.string nm,.int .i64 y,.int .i64 ph,.int .i64 fa] 109));have hb2:Below wr.heap.size wr z:=by rw[←q];exact(Zg _ _).alloc (Zc _) _
  have I:z.heap[wr.heap.size]?=some (.cells #[.string nm,.int .i64 y,.int .i64 ph,.int .i64 fa] 109 (0,0)):=by rw[←q];exact Yw wr _
  have br:z.heap.size=wr.heap.size+1:=by rw[←q];simp
  rw[q];clear q y0 y1 y2 y3;have m:=hid (HN.out.grow hb2);obtain⟨⟨c0,c1,c2,c3⟩,Y⟩:=Yx I;obtain⟨⟨x0,x1,x2,x3,x4,x5,x6,x7,x8⟩,xf⟩:=Y4 (show z.heap[w.heap.size+1+1+1+1+1+1]?=_ from m.out.1.box);have HB2:=hid I;clear hb2 I;go_still_tail 7,kq
  change wpList _ _ _ _ _ z.drew
  go_wp2_with (at_mapUpdate;refine XJ Q1 _ rfl _ _ _ rfl (w.heap.size+1+1) Li nm (.int .i64 (i:Int)) rfl rfl rfl (show YT z.drew _ _ from m.out.1.i) ?_;intro arr clock ab);obtain⟨E,H⟩:=ez (World.putM z.drew (w.heap.size+1+1) (.map arr clock));have O:Upon (w.heap.size+1+1) z E:=by rw[←H];exact YR ((Upon.refl _ _).drew) _
  have hd:Below z.heap.size z z.drew:=(Zg _ _).drew;have T:GV w p an (some ⟨bb,oo,none⟩) af ao cn ci cf co E Lc (JJ nm (.int .i64 (i:Int)) Li) [] []:=by
   rw[←H];exact⟨(m.out.1.grow hd).putI ab,by have:=(O.block _ (Zb m.out.2) oq).trans m.out.2;rw[←H] at this;exact this⟩
  have aj:E.heap[wr.heap.size]?=_:=(O.block _ oq oq).trans HB2.out;rw[H];clear H ab c0 c1 c2 c3 Y x0 x1 x2 x3 x4 x5 x6 x7 x8 xf;have F:=hid T;have ac:=Zb aj;have bn:=T.1.lt;obtain⟨⟨c0,c1,c2,c3⟩,Y⟩:=Yx aj;obtain⟨⟨x0,x1,x2,x3,x4,x5,x6,x7,x8⟩,xf⟩:=Y4 (show E.heap[w.heap.size+1+1+1+1+1+1]?=_ from T.1.box);have KA:=hid (show S6 (w.heap.size+1+1+1+1+1+1) wr.heap.size (w.heap.size+1) nm y ph fa E.drew from ⟨x4,c0,c1,c2,c3⟩);have KB:=hid (show ∀X,Below E.drew.heap.size E.drew X→S6 (w.heap.size+1+1+1+1+1+1) wr.heap.size (w.heap.size+1) nm y ph fa X from fun X hb=>⟨(hb.cell (p:=⟨_,4,none⟩) bn).trans x4,(hb.cell (p:=⟨_,0,none⟩) ac).trans c0,(hb.cell (p:=⟨_,1,none⟩) ac).trans c1,(hb.cell (p:=⟨_,2,none⟩) ac).trans c2,(hb.cell (p:=⟨_,3,none⟩) ac).trans c3⟩);have KP:=hid (show ∀X,Below E.drew.heap.size E.drew X→∀o,S6 (w.heap.size+1+1+1+1+1+1) wr.heap.size (w.heap.size+1) nm y ph fa (World.putM X (w.heap.size+1) o) from fun X hb o=>by
   have hf:∀(b o':Nat),b≠w.heap.size+1→(World.putM X (w.heap.size+1) o).cell? ⟨b,o',none⟩=X.cell? ⟨b,o',none⟩:=fun b o' hne=>by
    refine Zn ?_;show(X.heap.setIfInBounds (w.heap.size+1) o)[b]?=X.heap[b]?;rw[Array.getElem?_setIfInBounds_ne (fun e=>hne e.symm)]
   obtain⟨h0,h1,h2,h3,h4⟩:=KB.out X hb;exact⟨(hf _ _ oq).trans h0,(hf _ _ oq).trans h1,(hf _ _ oq).trans h2,(hf _ _ oq).trans h3,(hf _ _ oq).trans h4⟩)
  have bw:=hid (VG (w:=E.drew) nm y ph fa);clear T O hd aj x0 x1 x2 x3 x4 x5 x6 x7 x8 xf c0 c1 c2 c3 Y;go_region_held3 (fun w'=>w'.cell? ⟨w.heap.size+1+1+1+1+1+1,4,none⟩=some (.map (some (w.heap.size+1)))∧w'.cell? ⟨wr.heap.size,0,none⟩=some (.string nm)∧w'.cell? ⟨wr.heap.size,1,none⟩=some (.int .i64 y)∧w'.cell? ⟨wr.heap.size,2,none⟩=some (.int .i64 ph)∧w'.cell? ⟨wr.heap.size,3,none⟩=some (.int .i64 fa)) ((show S6 (w.heap.size+1+1+1+1+1+1) wr.heap.size (w.heap.size+1) nm y ph fa _;first|with_reducible exact KA.out|(with_reducible exact KB.out _ hb4)|(with_reducible exact KP.out _ hb4 _))) (first|(go_at_call 97;refine bw.out.mono ?_;rintro x X ⟨rfl,hb4⟩;obtain⟨al,M,ca,ba⟩:=EC QL (F.out.1.c.below (show Below E.heap.size E X from(Zg _ _).drew.trans hb4)) nm (.agg #[.int .i64 y,.int .i64 ph])));go_wp2;refine⟨⟨i+1,upd env nm (y,ph),VT e nm i,_,_,by go_num,oq,⟨(F.out.1.grow ((Zg _ _).drew.trans hb4)).putC ba,?_⟩,HE.out.put nm (y,ph),HI.out.put nm i,au.out,ak.out⟩,by simp[intOf];omega⟩;have hb:Below E.heap.size E X:=(Zg _ _).drew.trans hb4;exact((YR (Upon.refl _ X) (.map al M)).block _ (Zb ((hb.block _ (Zb F.out.2)).trans F.out.2)) oq).trans ((hb.block _ (Zb F.out.2)).trans F.out.2)
 have V:i=p.ins.length:=oq;subst V;have ay:¬(p.ins.length:Int)<(p.ins.length:Int):=oq;rw[Yp] at A j;have am:=hid (show XY Lc (Xc p.ins) from(show env=Xc p.ins from A)▸HE.out);have bv:=hid (show XK Li (inI (p.ins.map (·.nm)) 0 (fun _=>none)) from(show e=_ from j)▸HI.out);clear A j HE HI g;obtain⟨⟨q0,q1,q2,q3⟩,qf⟩:=Yx HN.out.2;go_wp2;obtain⟨w0,rfl⟩:=ey wr;clear q0 q1 q2 q3 qf ah ag ae;go_loopw [47] (fun v wr=>Hid (Nw2 w p an ai af ao cn ci cf co C Li v wr)) (fun i _=>p.flows.length-(intOf i).toNat)
 case atStart=>exact⟨0,_,fun _=>none,_,[],rfl,Zk _,HN.out,am.out,XK.nil,rfl,rfl⟩
 clear HN am;obtain⟨i,env,e,ap,Lf,rfl,cc,R,hE,hI,A,j⟩:=hrel.out;clear hrel;have HN:=hid R;have HE:=hid hE;have HI:=hid hI;have g:=R.1.low;have ah:=g.size;have ag:=Zb R.2;have ae:=R.1.lt;clear R hE hI;by_cases L:i<p.flows.length
 ·have bi:(i:Int)<(p.flows.length:Int):=oq;obtain⟨Z,aa⟩:=HC.out i (by rw[bd.out];exact L);have bj:l[i]'(by rw[bd.out];exact L)=Jv C p.flows[i].nm:=by
   have:=HL.out;subst this;rw[List.getElem_map]
  rw[bj] at Z aa;have Z:=(g.cell (p:=⟨bc,i*2,none⟩) bh).trans Z;have aa:=(g.cell (p:=⟨bc,i*2+1,none⟩) bh).trans aa;clear bj;obtain⟨bb,oo,rfl,U,D⟩:=HP.out.flows.at L;have J:=Vs w wr bb _ _ g U D;rw[yR L] at A j;obtain⟨f,hf⟩:=ez (p.flows[i]);rw[hf] at J A j Z aa;obtain⟨nm,⟨k1,nm1,n1,d1,G,a1⟩,fa⟩:=f;obtain⟨ad,cap,y0,y1,y2,y3,y4,y5,y6,y7,aw,ax⟩:=J.cells;obtain⟨⟨y,ph⟩,bp⟩:=ez (Jv C nm);simp only[bp] at Z aa y0 y1 y2 y3 y4 y5 y6 y7;have au:=hid (show VE C (p.flows.drop (i+1)) (upd env nm (y,ph))=VE C p.flows (Xc p.ins) by rw[←bp];exact A);have ak:=hid (show inI ((p.flows.drop (i+1)).map (·.nm)) (i+1) (VT e nm i)=inI (p.flows.map (·.nm)) 0 (fun _=>none) from j);have bg:bb<wr.heap.size:=oq;have ar:bc<wr.heap.size:=oq;clear D A j g J aw ax;go_wp2;obtain⟨z,q⟩:=ez (wr.alloc (.cells #[.string nm,.int .i64 k1,.string nm1,.int .i64 n1,.int .i64 d1,.slice ad G.len cap,.int .i64 a1,.int .i64 fa] 111));have hb2:Below wr.heap.size wr z:=by rw[←q];exact(Zg _ _).alloc (Zc _) _
  have I:z.heap[wr.heap.size]?=some (.cells #[.string nm,.int .i64 k1,.string nm1,.int .i64 n1,.int .i64 d1,.slice ad G.len cap,.int .i64 a1,.int .i64 fa] 111 (0,0)):=by rw[←q];exact Yw wr _
  have br:z.heap.size=wr.heap.size+1:=by rw[←q];simp
  rw[q];clear q y0 y1 y2 y3 y4 y5 y6 y7;have m:=hid (HN.out.grow hb2);have g1:=(hb2.cell (p:=⟨bc,i*2,none⟩) ar).trans Z;have g2:=(hb2.cell (p:=⟨bc,i*2+1,none⟩) ar).trans aa;obtain⟨c0,Y⟩:=cell0 I;obtain⟨⟨x0,x1,x2,x3,x4,x5,x6,x7,x8⟩,xf⟩:=Y4 (show z.heap[w.heap.size+1+1+1+1+1+1]?=_ from m.out.1.box);have HB2:=hid I;have bt:=hid g1;have bu:=hid g2;clear hb2 I Z aa g1 g2;go_still_tail 7,kq
  change wpList _ _ _ _ _ z.drew
  go_wp2_with (at_mapUpdate;refine XJ Q1 _ rfl _ _ _ rfl (w.heap.size+1+1+1) Lf nm (.int .i64 (i:Int)) rfl rfl rfl (show YT z.drew _ _ from m.out.1.f) ?_;intro arr clock ab);obtain⟨E,H⟩:=ez (World.putM z.drew (w.heap.size+1+1+1) (.map arr clock));have O:Upon (w.heap.size+1+1+1) z E:=by rw[←H];exact YR ((Upon.refl _ _).drew) _
  have hd:Below z.heap.size z z.drew:=(Zg _ _).drew;have T:GV w p an ai (some ⟨bb,oo,none⟩) ao cn ci cf co E ap Li (JJ nm (.int .i64 (i:Int)) Lf) []:=by
   rw[←H];exact⟨(m.out.1.grow hd).putF ab,by have:=(O.block _ (Zb m.out.2) oq).trans m.out.2;rw[←H] at this;exact this⟩
  have aj:E.heap[wr.heap.size]?=_:=(O.block _ oq oq).trans HB2.out;have g1:E.cell? ⟨bc,i*2,none⟩=_:=(Zn (a:=⟨bc,i*2,none⟩) (O.block bc oq oq)).trans bt.out;have g2:E.cell? ⟨bc,i*2+1,none⟩=_:=(Zn (a:=⟨bc,i*2+1,none⟩) (O.block bc oq oq)).trans bu.out;rw[H];clear H ab c0 Y x0 x1 x2 x3 x4 x5 x6 x7 x8 xf;have F:=hid T;obtain⟨c0,Y⟩:=cell0 aj;obtain⟨⟨x0,x1,x2,x3,x4,x5,x6,x7,x8⟩,xf⟩:=Y4 (show E.heap[w.heap.size+1+1+1+1+1+1]?=_ from T.1.box);clear T O hd aj;go_still_tail 10,kq
  change wpList _ _ _ _ _ E.drew
  go_wp2_with (at_mapUpdate;refine XJ QL _ rfl _ _ _ rfl (w.heap.size+1) ap nm (cvv (y,ph)) rfl rfl rfl (show YT E.drew _ _ from F.out.1.c) ?_;intro al M ba);refine⟨⟨i+1,upd env nm (y,ph),VT e nm i,_,_,by go_num,oq,⟨(F.out.1.grow (Zg _ _).drew).putC ba,?_⟩,HE.out.put nm (y,ph),HI.out.put nm i,au.out,ak.out⟩,by simp[intOf];omega⟩;exact((YR ((Upon.refl _ E).drew) (.map al M)).block _ (Zb F.out.2) oq).trans F.out.2
 have V:i=p.flows.length:=oq;subst V;have ay:¬(p.flows.length:Int)<(p.flows.length:Int):=oq;rw[Yp] at A j;have am:=hid (show XY ap (VE C p.flows (Xc p.ins)) from(show env=_ from A)▸HE.out);have bs:=hid (show XK Lf (inI (p.flows.map (·.nm)) 0 (fun _=>none)) from(show e=_ from j)▸HI.out);clear A j HE HI g;obtain⟨⟨q0,q1,q2,q3⟩,qf⟩:=Yx HN.out.2;go_wp2;obtain⟨w1,rfl⟩:=ey wr;clear q0 q1 q2 q3 qf ah ag ae;go_loopw [73] (fun v wr=>Hid (Nw3 w p an ai af ao cn ci cf co ap Li Lf v wr)) (fun i _=>p.nodes.length-(intOf i).toNat)
 case atStart=>exact⟨0,fun _=>none,[],rfl,Zk _,HN.out,XK.nil,rfl⟩
 clear HN;obtain⟨i,e,Ln,rfl,cd,R,hI,j⟩:=hrel.out;clear hrel;have HN:=hid R;have HI:=hid hI;have g:=R.1.low;have ah:=g.size;have ag:=Zb R.2;have ae:=R.1.lt;clear R hI;by_cases L:i<p.nodes.length
 ·have bi:(i:Int)<(p.nodes.length:Int):=oq;obtain⟨bb,oo,rfl,U,D⟩:=HP.out.nodes.at L;have J:=Vl w wr bb _ _ g U D;rw[kO L] at j;obtain⟨x,hx⟩:=ez (p.nodes[i]);rw[hx] at J j;obtain⟨nm,ps,bf,⟨k1,nm1,n1,d1,G,a1⟩,fa⟩:=x;obtain⟨pa,pc,ad,cap,y0,y1,y2,y3,y4,y5,y6,y7,y8,y9,aw,bz,ax⟩:=J.cells;have ak:=hid (show inI ((p.nodes.drop (i+1)).map (·.nm)) (i+1) (VT e nm i)=inI (p.nodes.map (·.nm)) 0 (fun _=>none) from j);have bg:bb<wr.heap.size:=oq;clear D j g J aw ax bz;go_wp2;obtain⟨z,q⟩:∃z,wr.alloc (.cells #[.string nm,.slice pa ps.length pc,.int .i64 bf,.int .i64 k1,.string nm1,.int .i64 n1,.int .i64 d1,.slice ad G.len cap,.int .i64 a1,.int .i64 fa] 90)=z:=⟨_,rfl⟩;have hb2:Below wr.heap.size wr z:=by rw[←q];exact(Zg _ _).alloc (Zc _) _
  have I:z.heap[wr.heap.size]?=some (.cells #[.string nm,.slice pa ps.length pc,.int .i64 bf,.int .i64 k1,.string nm1,.int .i64 n1,.int .i64 d1,.slice ad G.len cap,.int .i64 a1,.int .i64 fa] 90 (0,0)):=by rw[←q];exact Yw wr _
  have br:z.heap.size=wr.heap.size+1:=by rw[←q];simp
  rw[q];clear q y0 y1 y2 y3 y4 y5 y6 y7 y8 y9;have m:=hid (HN.out.grow hb2);obtain⟨c0,Y⟩:=cell0 I;obtain⟨⟨x0,x1,x2,x3,x4,x5,x6,x7,x8⟩,xf⟩:=Y4 (show z.heap[w.heap.size+1+1+1+1+1+1]?=_ from m.out.1.box);clear hb2 I;go_still_tail 7,kq
  change wpList _ _ _ _ _ z.drew
  go_wp2_with (at_mapUpdate;refine XJ Q1 _ rfl _ _ _ rfl (w.heap.size+1+1+1+1) Ln nm (.int .i64 (i:Int)) rfl rfl rfl (show YT z.drew _ _ from m.out.1.nd) ?_;intro arr clock ab);refine⟨⟨i+1,VT e nm i,_,by go_num,oq,⟨(m.out.1.grow (Zg _ _).drew).putN ab,?_⟩,HI.out.put nm i,ak.out⟩,by simp[intOf];omega⟩;exact((YR ((Upon.refl _ z).drew) (.map arr clock)).block _ (Zb m.out.2) oq).trans m.out.2
 have V:i=p.nodes.length:=oq;subst V;have ay:¬(p.nodes.length:Int)<(p.nodes.length:Int):=oq;rw[Yp] at j;have bx:=hid (show XK Ln (inI (p.nodes.map (·.nm)) 0 (fun _=>none)) from(show e=_ from j)▸HI.out);clear j HI g;go_wp2;go_ret;exact⟨_,_,_,_,_,_,_,_,_,_,rfl,HN.out.1,am.out,bv.out,bs.out,bx.out⟩
attribute [local go_sem] ZT
theorem YT.same{w w':World}{mb:Nat}{L:List (ByteArray × Value)}(h:YT w mb L)(e:w'.heap[mb]?=w.heap[mb]?):YT w' mb L:=by
 obtain⟨a,c,f,g⟩:=h;exact⟨a,c,e.trans f,g⟩
structure Mkr (W0:World) (p:PG) (an ai af ao:Option Addr) (cn ci cf co mc mi mf mn mx m:Nat) (Lc Li Lf Ln Lx:List (ByteArray × Value)) (W:World):Prop where
 low:Below W0.heap.size W0 W
 ord:W0.heap.size≤mc∧mc<mi∧mi<mf∧mf<mn∧mn<mx∧mx<m
 box:MkB W m p an ai af ao cn ci cf co mc mi mf mn mx
 c:YT W mc Lc
 i:YT W mi Li
 f:YT W mf Lf
 nd:YT W mn Ln
 x:YT W mx Lx
section
variable {W0:World} {p:PG} {an ai af ao:Option Addr} {cn ci cf co mc mi mf mn mx m:Nat} {Lc Li Lf Ln Lx:List (ByteArray × Value)} {W W':World}
theorem Mkr.lt(h:Mkr W0 p an ai af ao cn ci cf co mc mi mf mn mx m Lc Li Lf Ln Lx W):m<W.heap.size:=Zb h.box
theorem Mkr.keep(h:Mkr W0 p an ai af ao cn ci cf co mc mi mf mn mx m Lc Li Lf Ln Lx W){B:Nat}(g:m<B)(hb:Below B W W'):Mkr W0 p an ai af ao cn ci cf co mc mi mf mn mx m Lc Li Lf Ln Lx W':=by
 have j:=h.ord;exact⟨h.low.trans (hb.mono oq),j,(hb.block m g).trans h.box,h.c.same (hb.block _ oq),h.i.same (hb.block _ oq),h.f.same (hb.block _ oq),h.nd.same (hb.block _ oq),h.x.same (hb.block _ oq)⟩
theorem Mkr.grow(h:Mkr W0 p an ai af ao cn ci cf co mc mi mf mn mx m Lc Li Lf Ln Lx W)(hb:Below W.heap.size W W'):Mkr W0 p an ai af ao cn ci cf co mc mi mf mn mx m Lc Li Lf Ln Lx W':=h.keep h.lt hb
theorem Mkr.putX(h:Mkr W0 p an ai af ao cn ci cf co mc mi mf mn mx m Lc Li Lf Ln Lx W){o:Obj}{L:List (ByteArray × Value)}(j:YT (World.putM W mx o) mx L):Mkr W0 p an ai af ao cn ci cf co mc mi mf mn mx m Lc Li Lf Ln L (World.putM W mx o):=by
 have g:Upon mx W (World.putM W mx o):=YR (Upon.refl _ _) _;have q:=h.ord;exact⟨QJ h.low oq _,q,(g.block _ h.lt oq).trans h.box,h.c.upon g oq,h.i.upon g oq,h.f.upon g oq,h.nd.upon g oq,j⟩
end
theorem Zfd{w:World}{p:PG}{an ai af ao:Option Addr}{cn ci cf co mc mi mf mn mx m:Nat}{Lc Li Lf Ln:List (ByteArray × Value)}{w':World}(h:MkS w w.heap.size (ya p an ai af ao cn ci cf co mc mi mf mn mx) mc mi mf mn mx m w' Lc Li Lf Ln):Mkr w p an ai af ao cn ci cf co mc mi mf mn mx m Lc Li Lf Ln [] w' :=
 ⟨h.low,h.ord,h.box,h.c,h.i,h.f,h.nd,h.x⟩
theorem Q2{B:Nat}{X Y:World}{row:Option Nat}(hg:X.grownBy Y row)(hr:∀r,row=some r→B≤r∧∃o:Obj,X.heap[r]?=some o∧o.isCells=false)(hB:B≤X.heap.size):Below B X Y :=
 ownFrom_below (β:=Unit) (w₀:=X) hB (Zc B) () X Y row (Zg _ _) hg hr
def YM:List FL→Nat→List (PE × ByteArray)
 | [],_=>[]
 | f::l,i=>(YX f.e (dg i)).filter isC++YM l (i+1)
theorem kV:∀(a b:List ByteArray)(i:Nat)(e:IE),inI (a++b) i e=inI b (i+a.length) (inI a i e)
 | [],b,i,e=>by simp[inI]
 | k::a,b,i,e=>by
  rw[ZC,inI,inI,kV a b (i+1) _,Zp,show i+1+a.length=i+(a.length+1) by omega]
theorem ZbK(a:List ByteArray)(k:ByteArray)(e:IE):inI (a++[k]) 0 e=VT (inI a 0 e) k a.length:=by
 rw[kV,ZD];rfl
structure Vd (W0:World) (p:PG) (an ai af ao:Option Addr) (cn ci cf co mc mi mf mn mx m:Nat) (Lc Li Lf Ln:List (ByteArray × Value)) (w:World) (B:Nat) (Ds:List Nat) (ways:List ByteArray) (X:World):Prop where
 mkr:∃Lx,Mkr W0 p an ai af ao cn ci cf co mc mi mf mn mx m Lc Li Lf Ln Lx X∧XK Lx (inI ways 0 (fun _=>none))
 up:Upon mx w X
 lt:m<w.heap.size
 size:w.heap.size+4≤B
 bsize:B≤X.heap.size
 b0:Boxed X w.heap.size 123 (.pointer (some ⟨m,0,none⟩))
 b1:Boxed X (w.heap.size+1) 3 (.int .i64 0)
 b2:Boxed X (w.heap.size+1+1) 38 (.int .i64 0)
 b3:Boxed X (w.heap.size+1+1+1) 3 (.int .i64 (ways.length:Int))
 few:ways.length≤30
 marks:Mks w.heap.size Ds X
 under:∀D∈Ds,D<B
section
variable {W0:World} {p:PG} {an ai af ao:Option Addr} {cn ci cf co mc mi mf mn mx m:Nat} {Lc Li Lf Ln:List (ByteArray × Value)} {w:World} {B:Nat} {Ds:List Nat} {ways:List ByteArray} {X Y:World}
theorem Upon.then_below{r B:Nat}{a b c:World}(h:Upon r a b)(k:Below B b c)(hB:a.heap.size≤B):Upon r a c :=
 ⟨k.os.trans h.os,k.tape.trans h.tape,k.output.trans h.output,Zm h.size k.size,fun i hi hr=>(k.block i (Zd hi hB)).trans (h.block i hi hr)⟩
theorem Vd.keep(h:Vd W0 p an ai af ao cn ci cf co mc mi mf mn mx m Lc Li Lf Ln w B Ds ways X)(hb:Below B X Y):Vd W0 p an ai af ao cn ci cf co mc mi mf mn mx m Lc Li Lf Ln w B Ds ways Y:=by
 obtain⟨f,g,j⟩:=h.mkr;have q:=h.lt;have v:=h.size;exact⟨⟨f,g.keep oq hb,j⟩,h.up.then_below hb oq,q,v,Zm h.bsize hb.size,(hb.block _ oq).trans h.b0,(hb.block _ oq).trans h.b1,(hb.block _ oq).trans h.b2,(hb.block _ oq).trans h.b3,h.few,
  ⟨fun D hD=>⟨(h.marks.1 D hD).1,(hb.block D (h.under D hD)).trans (h.marks.1 D hD).2⟩,h.marks.2⟩,h.under⟩
theorem Vd.more(h:Vd W0 p an ai af ao cn ci cf co mc mi mf mn mx m Lc Li Lf Ln w B Ds ways X){B':Nat}(h1:B≤B')(h2:B'≤X.heap.size):Vd W0 p an ai af ao cn ci cf co mc mi mf mn mx m Lc Li Lf Ln w B' Ds ways X :=
 ⟨h.mkr,h.up,h.lt,Zm h.size h1,h2,h.b0,h.b1,h.b2,h.b3,h.few,h.marks,fun D hD=>Zd (h.under D hD) h1⟩
theorem Vd.own{row:Option Nat}(h:Vd W0 p an ai af ao cn ci cf co mc mi mf mn mx m Lc Li Lf Ln w B Ds ways X)(hg:X.grownBy Y row)(hr:∀r,row=some r→B≤r∧∃o:Obj,X.heap[r]?=some o∧o.isCells=false):Vd W0 p an ai af ao cn ci cf co mc mi mf mn mx m Lc Li Lf Ln w B Ds ways Y :=
 h.keep (Q2 hg hr h.bsize)
theorem Vd.step(h:Vd W0 p an ai af ao cn ci cf co mc mi mf mn mx m Lc Li Lf Ln w B Ds ways X){q:List (ByteArray × Value)}(z:Mkr W0 p an ai af ao cn ci cf co mc mi mf mn mx m Lc Li Lf Ln q X)(E:XK q (inI ways 0 (fun _=>none)))(k:ByteArray){o:Obj}
  (H:YT (World.putM X.drew mx o) mx (JJ k (.int .i64 (ways.length:Int)) q))(G:ways.length<30) :
  Vd W0 p an ai af ao cn ci cf co mc mi mf mn mx m Lc Li Lf Ln w B Ds (ways++[k]) ((World.putM X.drew mx o).setCell ⟨w.heap.size+1+1+1,0,none⟩ (.int .i64 ((ways.length:Int)+1))):=by
 have j:=h.lt;have A:=h.size;have C:=h.bsize;have I:=z.ord;have y:Upon mx X (World.putM X.drew mx o):=YR (Upon.refl _ _).drew _;have v:=(z.grow (Zg _ _).drew).putX H;have F:∀k,k≠w.heap.size+1+1+1→((World.putM X.drew mx o).setCell ⟨w.heap.size+1+1+1,0,none⟩ (.int .i64 ((ways.length:Int)+1))).heap[k]?=(World.putM X.drew mx o).heap[k]?:=fun k g=>Zr _ _ _ _ (fun e=>g e)
 have g:∀k,k<X.heap.size→k≠mx→k≠w.heap.size+1+1+1→((World.putM X.drew mx o).setCell ⟨w.heap.size+1+1+1,0,none⟩ (.int .i64 ((ways.length:Int)+1))).heap[k]?=X.heap[k]?:=fun k h1 h2 j=>(F k j).trans (y.block k h1 h2)
 refine⟨⟨_,v.keep (B:=w.heap.size) j ((Zg _ _).setCell (p:=⟨w.heap.size+1+1+1,0,none⟩) (by show w.heap.size≤w.heap.size+1+1+1;omega) _),?_⟩,?_,j,A,?_,?_,?_,?_,?_,?_,⟨fun D hD=>⟨(h.marks.1 D hD).1,?_⟩,h.marks.2⟩,h.under⟩
 ·rw[ZbK];exact E.put k ways.length
 ·exact(YR h.up.drew _).setCell (p:=⟨w.heap.size+1+1+1,0,none⟩) (Or.inr (by show w.heap.size≤w.heap.size+1+1+1;omega)) _
 ·refine Zm C (Zm y.size ?_);exact((Zg 0 (World.putM X.drew mx o)).setCell (p:=⟨w.heap.size+1+1+1,0,none⟩) (Zk _) _).size
 ·exact(g _ oq oq oq).trans h.b0
 ·exact(g _ oq oq oq).trans h.b1
 ·exact(g _ oq oq oq).trans h.b2
 ·have hb3:Boxed (World.putM X.drew mx o) (w.heap.size+1+1+1) 3 (.int .i64 (ways.length:Int)):=(y.block _ oq oq).trans h.b3;have:=hb3.set (.int .i64 ((ways.length:Int)+1));rw[show(((ways++[k]).length:Nat):Int)=(ways.length:Int)+1 by simp];exact this
 ·simp;omega
 have f:=(h.marks.1 D hD).2;have x:D≠w.heap.size+1+1+1:=by
  intro e;rw[e] at f;have:=h.b3;unfold Boxed at this;rw[this] at f
  cases f
 exact(g D (Zb f) (by have:=(h.marks.1 D hD).1;omega) x).trans f
theorem Vd.mark(h:Vd W0 p an ai af ao cn ci cf co mc mi mf mn mx m Lc Li Lf Ln w B Ds ways X){D:Nat}(g:B≤D)(f:X.heap[D]?=some (.deferred (some []))):Vd W0 p an ai af ao cn ci cf co mc mi mf mn mx m Lc Li Lf Ln w X.heap.size (D::Ds) ways X:=by
 have j:=h.size;refine⟨h.mkr,h.up,h.lt,Zm h.size h.bsize,Zc _,h.b0,h.b1,h.b2,h.b3,h.few,⟨fun D' hD'=>?_,List.nodup_cons.2 ⟨fun hm=>?_,h.marks.2⟩⟩,fun D' hD'=>?_⟩
 ·rcases ZR.1 hD' with rfl|hm
  ·exact⟨oq,f⟩
  exact h.marks.1 D' hm
 ·have:=h.under D hm;omega
 rcases ZR.1 hD' with rfl|hm
 ·exact Zb f
 have:=h.under D' hm;have:=h.bsize;omega
structure Zde (W0 w:World) (B:Nat) (Ds:List Nat) (X:World):Prop where
 low:Below W0.heap.size W0 X
 size:w.heap.size+4≤B
 bsize:B≤X.heap.size
 b1:∃a,Boxed X (w.heap.size+1) 3 (.int .i64 a)
 b2:Boxed X (w.heap.size+1+1) 38 (.int .i64 8)
 marks:Mks w.heap.size Ds X
 under:∀D∈Ds,D<B
end
section
variable {W0 w:World} {B:Nat} {Ds:List Nat} {X Y:World}
theorem Zde.own(f:W0.heap.size≤w.heap.size){row:Option Nat}(h:Zde W0 w B Ds X)(j:X.grownBy Y row)(m:∀r,row=some r→B≤r∧∃o:Obj,X.heap[r]?=some o∧o.isCells=false):Zde W0 w B Ds Y:=by
 have hb:=Q2 j m h.bsize;have q:=h.size;obtain⟨a,g⟩:=h.b1;exact⟨h.low.trans (hb.mono oq),q,Zm h.bsize hb.size,⟨a,(hb.block _ oq).trans g⟩,(hb.block _ oq).trans h.b2,⟨fun D hD=>⟨(h.marks.1 D hD).1,(hb.block D (h.under D hD)).trans (h.marks.1 D hD).2⟩,h.marks.2⟩,h.under⟩
end
def ZeL(W0:World)(p:PG)(an ai af ao:Option Addr)(cn ci cf co mc mi mf mn mx m:Nat)(Lc Li Lf Ln:List (ByteArray × Value))(w:World)(x:Ending)(w':World):Prop :=
 (∃a,x=.returned (.tuple #[.int .i64 a,.int .i64 8])∧30<(YM p.flows 0).length∧Below W0.heap.size W0 w') ∨
  (x=.returned (.tuple #[.int .i64 0,.int .i64 0])∧(YM p.flows 0).length≤30∧Upon mx w w'∧∃Lx,Mkr W0 p an ai af ao cn ci cf co mc mi mf mn mx m Lc Li Lf Ln Lx w'∧XK Lx (inI ((YM p.flows 0).map Prod.snd) 0 (fun _=>none)))
theorem Ga{l:List FL}{i:Nat}(h:i<l.length)(j:Nat):YM (l.drop i) j=(YX l[i].e (dg j)).filter isC++YM (l.drop (i+1)) (j+1):=by
 rw[ZN h];rfl
theorem uo{W0 w:World}(p:PG)(an Z M ao:Option Addr)(cn ci O co:Nat)(hp:AP W0 p an Z M ao cn ci O co)(bf:JX p)(mc mi mf mn I m:Nat)(Lc Li Lf Ln:List (ByteArray × Value))(hM:Mkr W0 p an Z M ao cn ci O co mc mi mf mn I m Lc Li Lf Ln [] w) :
  Calls prog 55 #[.pointer (some ⟨m,0,none⟩)] w (ZeL W0 p an Z M ao cn ci O co mc mi mf mn I m Lc Li Lf Ln w):=by
 have bc:=hM.lt;have da:=hM.low.size;have cw:=bf.lens;have HM:=hid hM;obtain⟨⟨x0,x1,x2,x3,x4,x5,x6,x7,x8⟩,xf⟩:=Y4 (show w.heap[m]?=_ from hM.box);have bv:m<w.heap.size+1:=oq;have bw:m<w.heap.size+1+1:=oq;have bx:m<w.heap.size+1+1+1:=oq;have bz:m<w.heap.size+1+1+1+1:=oq;clear hM;refine(Zt (n:=6)).1 ?_;refine callsIn_of_wp_marks func55 rfl trivial ?_ rfl;simp only[ntmps55,ZI,Zp,Zw,Nat.reduceAdd,Nat.reduceSub,ZF,ZE,ZL,ZJ,ZM,ZC];gi_wp2;obtain⟨W4,j⟩:=ez ((((w.alloc (.cells #[.pointer (some ⟨m,0,none⟩)] 123)).alloc (.cells #[.int .i64 0] 3)).alloc (.cells #[.int .i64 0] 38)).alloc (.cells #[.int .i64 0] 3));rw[j];have al:Below w.heap.size w W4:=by rw[←j];exact bq
 have cx:W4.heap.size=w.heap.size+4:=by rw[←j];simp
 have au:=hid (show Vd W0 p an Z M ao cn ci O co mc mi mf mn I m Lc Li Lf Ln w W4.heap.size [] [] W4 from ⟨⟨[],HM.out.grow al,fun _=>rfl⟩,Upon.of_below al,bc,oq,Zc _,
  by rw[←j];exact(((Boxed.new _ _ _).alloc _).alloc _).alloc _,by rw[←j];have:=((Boxed.new (w.alloc (.cells #[.pointer (some ⟨m,0,none⟩)] 123)) 3 (.int .i64 0)).alloc (.cells #[.int .i64 0] 38)).alloc (.cells #[.int .i64 0] 3);simpa using this,
  by rw[←j];have:=(Boxed.new ((w.alloc (.cells #[.pointer (some ⟨m,0,none⟩)] 123)).alloc (.cells #[.int .i64 0] 3)) 38 (.int .i64 0)).alloc (.cells #[.int .i64 0] 3);simpa using this,
  by rw[←j];have:=Boxed.new (((w.alloc (.cells #[.pointer (some ⟨m,0,none⟩)] 123)).alloc (.cells #[.int .i64 0] 3)).alloc (.cells #[.int .i64 0] 38)) 3 (.int .i64 0);simpa using this,by simp,⟨by simp,List.nodup_nil⟩,by simp⟩)
 clear j al x0 x1 x2 x3 x4 x5 x6 x7 x8 xf bv bw bx bz;refine wpIn_loop (fun a' wr=>∃(u5 u14 u15 u16 u17 u18 u34:Value)(i:Nat)(U:List Nat)(R:List (PE × ByteArray)),(i≤p.flows.length∧R++YM (p.flows.drop i) i=YM p.flows 0∧Vd W0 p an Z M ao cn ci O co mc mi mf mn I m Lc Li Lf Ln w wr.heap.size U (R.map Prod.snd) wr) ∧
  a'={ tmps:=#[.pointer (some ⟨m,0,none⟩),.pointer (some ⟨w.heap.size,0,none⟩),.pointer (some ⟨w.heap.size+1,0,none⟩),.pointer (some ⟨w.heap.size+1+1,0,none⟩),.pointer (some ⟨w.heap.size+1+1+1,0,none⟩),u5,undef,.pointer (some ⟨m,0,none⟩),.pointer (some ⟨m,0,none⟩),.pointer (some ⟨m,0,none⟩),.pointer (some ⟨m,2,none⟩),.slice M p.flows.length O,.int .i64 (p.flows.length:Int),.int .i64 (i:Int),u14,u15,u16,u17,u18,undef,undef,undef,undef,undef,undef,undef,undef,undef,undef,undef,undef,undef,undef,undef,u34],defers:=U.map mk })
  (fun a' _=>p.flows.length-(intOf (a'.tmps.getD 13 undef)).toNat) ⟨_,_,_,_,_,_,_,0,[],[],⟨Zk _,rfl,au.out⟩,rfl⟩ ?_
 rintro _ wr ⟨u5,u14,u15,u16,u17,u18,u34,i,U,R,⟨hi,A,hN⟩,rfl⟩;dsimp only;have HN:=hid hN;have c0:=hN.b0.cell;have cz:=Zm hN.size hN.bsize;clear hN au;by_cases be:i<p.flows.length
 ·have cv:(i:Int)<(p.flows.length:Int):=oq;rw[Ga be] at A;have ap:=hid A;clear A;gi_wp2_with (refine⟨trivial,?_⟩;gi_at_call 98;refine(Zt.2 (Uu (w:=wr) m i)).mono ?_;rintro x w5 ⟨rfl,rfl⟩);obtain⟨H,G⟩:=ez ((wr.alloc (.cells #[.pointer (some ⟨m,0,none⟩)] 123)).alloc (.cells #[.int .i64 (i:Int)] 3));rw[G];have bt:Below wr.heap.size wr H:=by rw[←G];exact bq
  have cy:H.heap.size=wr.heap.size+2:=by rw[←G];simp
  have br:Boxed H wr.heap.size 123 (.pointer (some ⟨m,0,none⟩)):=by rw[←G];exact(Boxed.new _ _ _).alloc _
  have bs:Boxed H (wr.heap.size+1) 3 (.int .i64 (i:Int)):=by rw[←G];have:=Boxed.new (wr.alloc (.cells #[.pointer (some ⟨m,0,none⟩)] 123)) 3 (.int .i64 (i:Int));simpa using this
  clear G;have ah:=hid ((HN.out.keep bt).more (B':=H.heap.size) oq (Zc _));obtain⟨cl,az,_⟩:=ah.out.mkr;have ab:Below W0.heap.size W0 H:=az.low;have bk:=hid az.box;have cb:=ab.size;have cg:=ah.out.lt;refine uz (w:=H) (encs:=fun x:VS W0=>#[.agg #[.int .i64 x.s.1.k,.string x.s.1.nm,.int .i64 x.s.1.n,.int .i64 x.s.1.d,.slice x.ad x.s.1.args.len x.cap,.int .i64 x.s.1.a,.string x.s.2]]) rfl oq (gf:=130) (lb:=#[.pointer (some ⟨wr.heap.size,0,none⟩),.pointer (some ⟨wr.heap.size+1,0,none⟩)]) rfl trivial (enters_of func130 kq rfl) (n₀:=W0.heap.size) (Bk:=wr.heap.size) cb
   (VD p an Z M ao cn ci O co hp bf mc mi mf mn I m wr.heap.size (wr.heap.size+1) i _ be H wr.heap.size oq ab bk.out br bs) (fun _=>rfl)
   (fun pre X=>Vd W0 p an Z M ao cn ci O co mc mi mf mn I m Lc Li Lf Ln w H.heap.size U ((R++pre.map (fun y:VS W0=>y.s)).map Prod.snd) X)
   (fun pre X=>Zde W0 w H.heap.size U X∧31≤R.length+pre.length)
   (fun s X Y row hs hg hr=>hs.own hg hr) (fun s X Y row hs hg hr=>⟨hs.1.own oq hg hr,hs.2⟩) (by simpa using ah.out)
   (fun x a' X=>∃Bx,H.heap.size≤Bx∧X.heap[Bx]?=some (.cells #[.int .i64 x.s.1.k,.string x.s.1.nm,.int .i64 x.s.1.n,.int .i64 x.s.1.d,.slice x.ad x.s.1.args.len x.cap,.int .i64 x.s.1.a,.string x.s.2] 184 (0,0)) ∧
    a'={ tmps:=#[.pointer (some ⟨m,0,none⟩),.pointer (some ⟨w.heap.size,0,none⟩),.pointer (some ⟨w.heap.size+1,0,none⟩),.pointer (some ⟨w.heap.size+1+1,0,none⟩),.pointer (some ⟨w.heap.size+1+1+1,0,none⟩),.int .i64 (i:Int),.pointer (some ⟨Bx,0,none⟩),.pointer (some ⟨m,0,none⟩),.pointer (some ⟨m,0,none⟩),.pointer (some ⟨m,0,none⟩),.pointer (some ⟨m,2,none⟩),.slice M p.flows.length O,.int .i64 (p.flows.length:Int),.int .i64 (i:Int),.bool true,.int .i64 (i:Int),.pointer (some ⟨m,0,none⟩),.int .i64 (i:Int),.func (.func 130) #[] #[.pointer (some ⟨wr.heap.size,0,none⟩),.pointer (some ⟨wr.heap.size+1,0,none⟩)],.agg #[.int .i64 x.s.1.k,.string x.s.1.nm,.int .i64 x.s.1.n,.int .i64 x.s.1.d,.slice x.ad x.s.1.args.len x.cap,.int .i64 x.s.1.a,.string x.s.2],undef,undef,undef,undef,undef,undef,undef,undef,undef,undef,undef,undef,undef,undef,u34],defers:=[] })
   (fun x a' _ X Y row hs hg hrw=>by
    obtain⟨Bx,h1,V,h3⟩:=hs;refine⟨Bx,h1,(hg.block Bx (Zq.1 V).1 (fun e=>?_)).trans V,h3⟩;obtain⟨_,o,T,hc⟩:=hrw Bx e.symm;rw[V] at T;cases T;cases hc)
   ?assign ?body ?done ?stop
  case assign =>
   rintro l2 pre x X K f hK;gi_wp2;exact hK _ _ ((Zg _ _).alloc (Zc _) _) (f.keep (((Zg _ _).alloc (Zc _) _).mono f.bsize)) ⟨X.heap.size,f.bsize,Yw X _,rfl⟩
  case body =>
   rintro l2 pre ⟨⟨⟨k2,bj,n2,d2,J,a2⟩,v⟩,aw,aa,ag⟩ a' X ce ⟨r,hr⟩ f ⟨Bx,cr,bi,rfl⟩ ch;simp only at bi;obtain⟨Lx,g,E⟩:=f.mkr;have ac:=f.few;obtain⟨ways,C⟩:=ez ((R++pre.map (fun y:VS W0=>y.s)).map Prod.snd);have bl:=hid (show ways.length=R.length+pre.length by rw[←C];simp);rw[C] at f E ac;have b3:=f.b3;have c0:=f.b0.cell;have c1:=f.b1.cell;have f1:=f.b1.frozen;have c2:=f.b2.cell;have f2:=f.b2.frozen;obtain⟨⟨x0,x1,x2,x3,x4,x5,x6⟩,xf⟩:=Y7 bi;obtain⟨⟨z0,z1,z2,z3,z4,z5,z6,z7,z8⟩,zf⟩:=Y4 (show X.heap[m]?=_ from g.box);have ct:=f.bsize;have ck:=g.ord;by_cases ax:ways.length=30
   ·rw[ax] at b3;have c3:=b3.cell;have z:=hid f;have ba:=f.b1;have bb:=f.b2;clear f g E b3 hr;gi_wp2;have F:∀k,k≠w.heap.size+1→k≠w.heap.size+1+1→((X.setCell ⟨w.heap.size+1,0,none⟩ (.int .i64 a2)).setCell ⟨w.heap.size+1+1,0,none⟩ (.int .i64 8)).heap[k]?=X.heap[k]?:=fun k h1 V=>by
     rw[Zr _ _ _ _ (fun e=>V e),Zr _ _ _ _ (fun e=>h1 e)]
    have am:∀B,B≤w.heap.size+1→Below B X ((X.setCell ⟨w.heap.size+1,0,none⟩ (.int .i64 a2)).setCell ⟨w.heap.size+1+1,0,none⟩ (.int .i64 8)):=fun B hB=>((Zg _ _).setCell (p:=⟨w.heap.size+1,0,none⟩) hB _).setCell (p:=⟨w.heap.size+1+1,0,none⟩) (by show B≤w.heap.size+1+1;omega) _
    refine⟨⟨(am 0 oq).size,fun k o hk T hc=>(F k oq oq).trans T⟩,rfl,⟨?_,oq,Zm z.out.bsize (am 0 oq).size,⟨a2,?_⟩,?_,?_,z.out.under⟩,by rw[Zx,Zp,Zw];have:=bl.out;omega⟩
    ·obtain⟨Lx,g,_⟩:=z.out.mkr;exact g.low.trans (am _ oq)
    ·exact(ba.set (.int .i64 a2)).other oq _
    ·exact(bb.other oq _).set _
    exact(z.out.marks.set _ _).set _ _
   have cj:((ways.length:Int) == 30)=false:=ZY.2 oq;have ay:ways.length<30:=oq;have c3:=b3.cell;have z:=hid f;have ar:=hid g;have aq:=hid E;clear f g E b3 hr ax ac;gi_wp2;refine KX 7 kq kq ?hlet kq ?_
   case hlet=>rintro⟨_,_,h⟩;exact h
   simp only[List.take_succ_cons,List.take_zero,List.drop_succ_cons,List.drop_zero]
   repeat still_step
   try refine wpStill_nil ?_
   change wpList _ _ _ _ _ X.drew
   go_wp2_with (at_mapUpdate;refine XJ gO _ rfl _ _ _ rfl I Lx v (.int .i64 (ways.length:Int)) rfl rfl rfl (show YT X.drew _ _ from ar.out.x) ?_;intro arr clock ca);have L:Upon I X (World.putM X.drew I (.map arr clock)):=YR (Upon.refl _ _).drew _;have av:=hid (z.out.step ar.out aq.out v ca ay);obtain⟨W2,bu⟩:=ez (World.putM X.drew I (.map arr clock));rw[bu] at L av ⊢;have b3:Boxed W2 (w.heap.size+1+1+1) 3 (.int .i64 (ways.length:Int)):=(L.block _ oq oq).trans z.out.b3;have cm:=b3.cell;have cp:=b3.frozen;have cd:IntKind.i64.wrap ((ways.length:Int)+1)=(ways.length:Int)+1:=ZK _ oq;gi_wp2;have F:∀k,k<X.heap.size→k≠I→k≠w.heap.size+1+1+1→(W2.setCell ⟨w.heap.size+1+1+1,0,none⟩ (.int .i64 ((ways.length:Int)+1))).heap[k]?=X.heap[k]?:=fun k h1 V h3=>by
    rw[Zr _ _ _ _ (fun e=>h3 e)];exact L.block k h1 V
   have bh:X.heap.size≤(W2.setCell ⟨w.heap.size+1+1+1,0,none⟩ (.int .i64 ((ways.length:Int)+1))).heap.size:=Zm L.size ((Zg 0 W2).setCell (p:=⟨w.heap.size+1+1+1,0,none⟩) (Zk _) _).size;refine⟨⟨bh,fun k o hk T hc=>(F k (Zb T) oq oq).trans T⟩,⟨?_,fun k o hk T hc=>(F k (Zb T) oq oq).trans T⟩,?_⟩
   ·exact(L.below oq oq).setCell (p:=⟨w.heap.size+1+1+1,0,none⟩) (by show W0.heap.size≤w.heap.size+1+1+1;omega) _
   have e:((R++(pre++[(⟨(⟨k2,bj,n2,d2,J,a2⟩,v),aw,aa,ag⟩:VS W0)]).map (fun y:VS W0=>y.s)).map Prod.snd)=ways++[v]:=by rw[←C];simp
   show Vd W0 p an Z M ao cn ci O co mc mi mf mn I m Lc Li Lf Ln w H.heap.size U ((R++(pre++[(⟨(⟨k2,bj,n2,d2,J,a2⟩,v),aw,aa,ag⟩:VS W0)]).map (fun y:VS W0=>y.s)).map Prod.snd) _;rw[e];exact av.out
  case done =>
   rintro D zs X hD cc f hK;gi_wp2;rw[show((i:Int)+1)=((i+1:Nat):Int) by omega];refine⟨⟨_,_,_,_,_,_,_,i+1,D::U,R++zs.map (·.s),⟨oq,?_,f.mark hD hK⟩,rfl⟩,by simp[intOf];omega⟩;rw[cc,List.append_assoc];exact ap.out
  rintro D pre X hD bg ⟨hX,cq⟩ hK;obtain⟨a,bA⟩:=hX.b1;have bE:=hX.b2;have bd:=hX.low;gi_wp2;refine Qp (n₀:=w.heap.size) (D::U) _ ⟨fun D' hD'=>?_,List.nodup_cons.2 ⟨fun hm=>?_,hX.marks.2⟩⟩ (fun w' hk=>?_)
  ·rcases ZR.1 hD' with rfl|hm
   ·exact⟨oq,hK⟩
   exact hX.marks.1 D' hm
  ·have:=hX.under D hm;omega
  have bn:=(show Boxed w' _ _ _ from hk.same _ _ bA rfl).cell;have bp:=(show Boxed w' _ _ _ from hk.same _ _ bE rfl).cell;refine⟨.tuple #[.int .i64 a,.int .i64 8],?_,?_⟩
  ·simp only[results,results55];go_simp
  refine .inl ⟨a,rfl,?_,bd.trans (hk.below.mono oq)⟩;obtain⟨q,hq⟩:=bg;have h1:=Z3 List.length ap.out;have V:=Z3 List.length hq;simp only[Zx,Zo] at h1 V;omega
 have ae:i=p.flows.length:=oq;have cu:¬(i:Int)<(p.flows.length:Int):=oq;have aj:=HN.out.b1;have ak:=HN.out.b2;have cA:=aj.cell;have fA:=aj.frozen;have cE:=ak.cell;have fE:=ak.frozen;gi_wp2;refine Qp U _ ((HN.out.marks.set _ _).set _ _) (fun w' hk=>?_);have bm:=hk.same _ _ ((aj.set (.int .i64 0)).other (show w.heap.size+1≠w.heap.size+1+1 by omega) (.int .i64 0)) rfl;have bo:=hk.same _ _ ((ak.other (show w.heap.size+1+1≠w.heap.size+1 by omega) (.int .i64 0)).set (.int .i64 0)) rfl;have bn:=(show Boxed w' _ _ _ from bm).cell;have bp:=(show Boxed w' _ _ _ from bo).cell;refine⟨.tuple #[.int .i64 0,.int .i64 0],?_,.inr ⟨rfl,?_,?_,?_⟩⟩
 ·simp only[results,results55];go_simp
 ·rw[ae,Yp,YM,List.append_nil] at A;have:=HN.out.few;rw[←A];simpa using this
 ·exact(((HN.out.up.setCell (p:=⟨w.heap.size+1,0,none⟩) (Or.inr (by show w.heap.size≤w.heap.size+1;omega)) _)).setCell (p:=⟨w.heap.size+1+1,0,none⟩) (Or.inr (by show w.heap.size≤w.heap.size+1+1;omega)) _).then_below hk.below (Zc _)
 obtain⟨Lx,g,f⟩:=HN.out.mkr;rw[ae,Yp,YM,List.append_nil] at A;rw[A] at f;exact⟨Lx,g.keep (B:=w.heap.size) bc ((((Zg _ _).setCell (p:=⟨w.heap.size+1,0,none⟩) (by show w.heap.size≤w.heap.size+1;omega) _).setCell (p:=⟨w.heap.size+1+1,0,none⟩) (by show w.heap.size≤w.heap.size+1+1;omega) _).trans hk.below),f⟩
end Go.Proofs.YtgigilkpndhddaaGreatDoor.syn
