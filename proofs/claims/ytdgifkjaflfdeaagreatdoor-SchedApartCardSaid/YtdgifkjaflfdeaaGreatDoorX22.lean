/- Parts of the proof. -/
import Derived.Test.YtdgifkjaflfdeaaGreatDoorX20
import Derived.Test.YtdgifkjaflfdeaaGreatDoorX21
set_option linter.all false
set_option maxRecDepth 100000
set_option maxHeartbeats 16000000
namespace Go.Proofs.YtdgifkjaflfdeaaGreatDoor.syn
open Tryz
open Go.RowKit Go.Shelf
theorem Zfl{w:World}{b:Nat}{q v x y:Value}{t:TypeId}(h:w.1[b]?=some (.cells #[q,v,x,y] t (0,0)))(u0 u1 u2 u3:Value):((((w.setCell ⟨b,0,none⟩ u0).setCell ⟨b,1,none⟩ u1).setCell ⟨b,2,none⟩ u2).setCell ⟨b,3,none⟩ u3).1[b]?=some (.cells #[u0,u1,u2,u3] t (0,0)):=by
 have f:=Zj _ b 0 _ t u0 h;have g:=Zj _ b 1 _ t u1 f;have j:=Zj _ b 2 _ t u2 g;have m:=Zj _ b 3 _ t u3 j;simpa only [sA,sB,sC] using m
theorem vg(w:World)(b:Nat)(u0 u1 u2 u3:Value):Upon b w ((((w.setCell ⟨b,0,none⟩ u0).setCell ⟨b,1,none⟩ u1).setCell ⟨b,2,none⟩ u2).setCell ⟨b,3,none⟩ u3) :=
 ((((Upon.refl b w).setAt (Or.inl rfl) _).setAt (Or.inl rfl) _).setAt (Or.inl rfl) _).setAt (Or.inl rfl) _
theorem Y4.of_upon{e:TypeId}{w w':World}{b:Nat}{cur:Array Value}{g:Nat × Nat}(h:w.1[b]?=some (.cells cur e g))(m:Upon b w w'):Y4 e w w':=by
 intro i f t j hi ht;refine(m.block i (Zb hi) (fun he=>?_)).trans hi;subst he;rw[h] at hi;injection hi with hi
 injection hi with h1 h2 h3
 exact ht h2.symm
structure Zbu (w:World) (e:PE) (way:ByteArray) (ad:OA) (cap X:Nat) (nd pp ff:Int) (al:List (Nat × List Op3)) (i:Nat) (v:Value) (wr:World):Prop where
 le:i<=al.length
 hX:w.1.size+2<=X
 b0:wr.1[w.1.size]?=some (Kc e ad cap way)
 b1:wr.1[w.1.size+1]?=some (.cells #[.int .i64 0,.int .i64 0,.int .i64 0,.slice none 0 0] 53 (0,0))
 bx:wr.1[X]?=some (.cells #[.int .i64 nd,.int .i64 pp,.int .i64 ff,v] 53 (0,0))
 row:XB (Gr w.1.size) 92 2 wr w.1.size v (al.take i)
 low:Below w.1.size w wr
section
variable {w:World} {e:PE} {way:ByteArray} {ad:OA} {cap X:Nat} {nd pp ff:Int} {al:List (Nat × List Op3)} {i:Nat} {v:Value} {wr:World}
theorem yr{α:Type}{l:List α}{i:Nat}(h:i<l.length):l.take (i+1)=l.take i++[l[i]]:=by
 rw[Zw h]
theorem Zbu.app(h:Zbu w e way ad cap X nd pp ff al i v wr)(E:i<al.length){C w4:World}(hb6:Below wr.1.size wr C){J:Value}{I:Nat}{H:List Op3}(hx:al[i]=(I,H))(z:C.ownsRow w.1.size 183 3 J H.length (Qy H)){A:List (List Value)}(T:A.length=(al.take i).length)
  (L:wr.ownsRow w.1.size 92 2 v i A.flatten)(U:∀c∈A,c.length=2)(V:∀j (hj:j<(al.take i).length) (Y:j<A.length),Gr w.1.size wr A[j] (al.take i)[j]){ob:Obj}{v':Value}
  (y:w4.ownsRow w.1.size 92 2 v' (i+1) (A.flatten++[.int .i64 (I:Int),J]))(D:(C.alloc ob).grownBy w4 v.ownBlock) :
  (w4.cell? ⟨X,3,none⟩=some v/\w4.frozen? ⟨X,3,none⟩=false)/\Zbu w e way ad cap X nd pp ff al (i+1) v' (w4.setCell ⟨X,3,none⟩ v'):=by
 obtain⟨g,O,aa⟩:=UL L hb6 D;have G:(al.take i).length=i:=by rw[Yc];omega
 have F:Y4 92 C w4:=(Y4.of_below ((Zg C.1.size C).alloc (Zc _) ob)).trans (Y4.of_grown (own_below (own_below L hb6) ((Zg _ _).alloc (Zc _) ob)) D);have m:=g X _ _ _ h.bx (by decide);have M:=h.hX;have R:=h.low.size;have q:Y4 53 w4 (w4.setCell ⟨X,3,none⟩ v'):=Y4.set w4 X 3 m v';have f:∀k,k≠X->(w4.setCell ⟨X,3,none⟩ v').1[k]?=w4.1[k]?:=fun k hk=>Zr _ _ _ _ hk
 refine⟨⟨by simp[World.cell?,m],by simp[World.frozen?,m]⟩,E,M,(f _ oq).trans (g _ _ _ _ h.b0 (by decide)),(f _ oq).trans (g _ _ _ _ h.b1 (by decide)),?_,?_,?_⟩
 .have:=Zj _ X 3 _ _ v' m;simpa only [sA,sB,sC] using this
 .rw[yr E,hx];have Z:=Jn (Pe:=Gr w.1.size) T (by rw[G];exact L) U V (fun c x hc=>hc.stays g (by decide)) (c:=[.int .i64 (I:Int),J]) rfl (x:=(I,H)) ⟨J,rfl,J8 z F (by decide)⟩ (by rw[G];exact y);exact Z.stays q (by decide) (fun c x hc=>hc.stays q (by decide))
 exact(h.low.trans (O _ (Zc _) R)).setCell (p:=⟨X,3,none⟩) (by show w.1.size<=X;omega) _
end
def kJ(p:PG)(xIx fIx iIx:IE)(e:PE)(way:ByteArray)(r:Nat × List Op3):Prop:=∃N ops,XG p.flows p.ins.length xIx fIx iIx N e way []=some (r.1,ops)/\r.2=ops.reverse
theorem zG{W0 w:World}(p:PG)(an D C E:OA)(H G F I:Nat)(hp:AP W0 p an D C E H G F I)(J:JW p)(T V U X Y m:Nat)(O y q R z:List (ByteArray × Value))(hM:Mkr W0 p an D C E H G F I T V U X Y m O y q R z w)
  (xIx g iIx:IE)(hX:XF z xIx)(hF:XF q g)(hI:XF y iIx)(L:∀k j,xIx k=some j->j<=1000)(e:PE)(f:ByteArray)(A:OA)(cap:Nat)(hs:Qs W0 e A cap f)(r:Nat × List Op3)(hr:kJ p xIx g iIx e f r) :
  Calls prog 148 #[.pointer (some ⟨m,0,none⟩),spv e A cap f] w fun x w'=>(∃v,x=.returned (.agg #[.int .i64 (r.1:Int),v])/\w'.ownsRow w.1.size 183 3 v r.2.length (Qy r.2))/\Below w.1.size w w':=by
 obtain⟨N,M,Z,h2⟩:=hr;refine(zH p an D C E H G F I hp J T V U X Y m O y q R z hM xIx g iIx hX hF hI L N e f A cap hs r.1 M Z).mono ?_;rintro x w' ⟨⟨v,h3,h4⟩,h5⟩;exact⟨⟨v,h3,by rw[h2,List.length_reverse];exact h4⟩,h5⟩
theorem Zdy{W0 w:World}(p:PG)(an ai af ao:OA)(cn ci cf co:Nat)(hp:AP W0 p an ai af ao cn ci cf co)(bi:JW p)(mc mi mf mn mx m:Nat)(Lc Li Lf Ln Lx:List (ByteArray × Value))(V:Mkr W0 p an ai af ao cn ci cf co mc mi mf mn mx m Lc Li Lf Ln Lx w)
  (xIx ac iIx T:IE)(hX:XF Lx xIx)(hF:XF Lf ac)(hI:XF Li iIx)(hN:XF Ln T)(bn:∀k j,xIx k=some j->j<=1000)(env:Env)(hC:XW Lc env)(e:PE)(f:ByteArray)(D:OA)(cap:Nat)(hs:Qs W0 e D cap f)
  (pp ff:Int)(ht:UV (Xt env) e=(pp,ff))(E:List (Nat × List Op3))(cy:E.length=e.args.len)(az:∀i c,e.args.at i=some c->∀h:i<E.length,kJ p xIx ac iIx c (f++⟨#[47]⟩++dg i) E[i]) :
  Calls prog 147 #[.pointer (some ⟨m,0,none⟩),spv e D cap f] w fun x w'=>(∃v,x=.returned (.agg #[.int .i64 (((T e.nm).getD 0:Nat):Int),.int .i64 pp,.int .i64 ff,v])/\XB (Gr w.1.size) 92 2 w' w.1.size v E)/\Below w.1.size w w':=by
 have df:=V.lt;have cm:=V.low.size;have L:=hid (fun(w':World) (hb:Below w.1.size w w')=>qi p an ai af ao cn ci cf co mc mi mf mn mx m Lc Li Lf Ln Lx env hC _ e (ZX _) hs.good w' D cap hs.mem (V.grow hb));rw[ht] at L;dsimp only at L;have br:=hid (fun(w':World) (hb:Below w.1.size w w') i c (hc:e.args.at i=some c)=>JG (V.low.trans (hb.mono cm)) e c D cap f i hs hc);have bp:=hid (fun(w':World) (hb:Below w.1.size w w') e5 way5 ab F (hs5:Qs W0 e5 ab F way5) r hr=>zG p an ai af ao cn ci cf co hp bi mc mi mf mn mx m Lc Li Lf Ln Lx (V.grow hb) xIx ac iIx hX hF hI bn e5 way5 ab F hs5 r hr);have HM:=hid V;have HN:=hid hN;have bo:=hid az;have cx:=hs.few;have cz:=QO e.args;obtain⟨⟨z0,z1,z2,z3,z4,z5,z6,z7,z8⟩,zf⟩:=Y1 (show w.1[m]?=_ from V.box);clear V hp bi hX hF hI hN bn hC hs ht az;unfold spv ev at *;obtain⟨Z,ah⟩:=ez ((((T e.nm).getD 0:Nat):Int));have bf:(if false then Value.tuple #[(Xm e.nm Ln).getD (.int .i64 0),.bool (Xm e.nm Ln).isSome] else (Xm e.nm Ln).getD (.int .i64 0))=.int .i64 Z:=by rw[<-ah,HN.o e.nm];cases T e.nm<;>rfl
 have aq:=hid bf;rw[ah];clear ah bf;go_enter func147,ntmps147;go_upto_region 1 with fail
 obtain⟨g,C⟩:=ez ((w.alloc (Kc e D cap f)).alloc (.cells #[.int .i64 0,.int .i64 0,.int .i64 0,.slice none 0 0] 53))
 change Code.wp _ _ _ _ ((w.alloc (Kc e D cap f)).alloc (.cells #[.int .i64 0,.int .i64 0,.int .i64 0,.slice none 0 0] 53))
 rw[C];have hB:Below w.1.size w g:=by rw[<-C];exact bq
 have cl:g.1.size=w.1.size+2:=by rw[<-C];simp
 have ak:g.1[w.1.size]?=some (Kc e D cap f):=by rw[<-C];exact(Za _ _ _ (by simp)).trans (Yx w _)
 have bj:g.1[w.1.size+1]?=some (.cells #[.int .i64 0,.int .i64 0,.int .i64 0,.slice none 0 0] 53 (0,0)):=by rw[<-C];simpa using Yx (w.alloc (Kc e D cap f)) (.cells #[.int .i64 0,.int .i64 0,.int .i64 0,.slice none 0 0] 53)
 have ae:=HM.o.grow hB;have bt:=hid ae;clear z0 z1 z2 z3 z4 z5 z6 z7 z8 zf C;obtain⟨⟨z0,z1,z2,z3,z4,z5,z6,z7,z8⟩,zf⟩:=Y1 (show g.1[m]?=_ from ae.box);obtain⟨⟨x0,x1,x2,x3,x4,x5,x6⟩,xf⟩:=Y5 ak;have HB:=hid hB;have aa:=hid ak;have ar:=hid bj;have cr:m<g.1.size:=oq;have q:w.1.size<g.1.size:=oq;have ct:w.1.size+1<g.1.size:=oq;have dl:w.1.size+2<=g.1.size:=oq;clear hB ak bj ae cl;go_cut [5] (fun s5 W=>Hid (∃X,s5=.pointer (some ⟨X,0,none⟩)/\g.1.size<=X/\W.1[X]?=some (.cells #[.int .i64 Z,.int .i64 pp,.int .i64 ff,.slice none 0 0] 53 (0,0))/\Below g.1.size g W))
 case first =>
  have KB:=hid (show ∀W:World,Below g.1.size g W->(fun w'=>w'.cell? ⟨m,7,none⟩=some (.map (some mn))/\w'.cell? ⟨w.1.size,0,none⟩=some (.int .i64 e.k)/\w'.cell? ⟨w.1.size,1,none⟩=some (.string e.nm)/\w'.cell? ⟨w.1.size,2,none⟩=some (.int .i64 e.n)/\w'.cell? ⟨w.1.size,3,none⟩=some (.int .i64 e.d)/\w'.cell? ⟨w.1.size,4,none⟩=some (.slice D e.args.len cap)/\w'.cell? ⟨w.1.size,5,none⟩=some (.int .i64 e.a)/\(Instr.lookup 252 (.map (some mn)) (.string e.nm) false).run prog w'=.ok (.int .i64 Z) w') W from fun W hb=>by
   have h:=Qa Q0 (bt.o.nd.below hb) e.nm false;rw[aq.o] at h;exact⟨(hb.cell (p:=⟨m,7,none⟩) cr).trans z7,(hb.cell (p:=⟨w.1.size,0,none⟩) q).trans x0,(hb.cell (p:=⟨w.1.size,1,none⟩) q).trans x1,(hb.cell (p:=⟨w.1.size,2,none⟩) q).trans x2,(hb.cell (p:=⟨w.1.size,3,none⟩) q).trans x3,(hb.cell (p:=⟨w.1.size,4,none⟩) q).trans x4,(hb.cell (p:=⟨w.1.size,5,none⟩) q).trans x5,h⟩)
  clear z0 z1 z2 z3 z4 z5 z6 z7 z8 zf x0 x1 x2 x3 x4 x5 x6 xf;go_region_held3 (fun w'=>w'.cell? ⟨m,7,none⟩=some (.map (some mn))/\w'.cell? ⟨w.1.size,0,none⟩=some (.int .i64 e.k)/\w'.cell? ⟨w.1.size,1,none⟩=some (.string e.nm)/\w'.cell? ⟨w.1.size,2,none⟩=some (.int .i64 e.n)/\w'.cell? ⟨w.1.size,3,none⟩=some (.int .i64 e.d)/\w'.cell? ⟨w.1.size,4,none⟩=some (.slice D e.args.len cap)/\w'.cell? ⟨w.1.size,5,none⟩=some (.int .i64 e.a)/\(Instr.lookup 252 (.map (some mn)) (.string e.nm) false).run prog w'=.ok (.int .i64 Z) w') ((exact KB.o _ bq)) (first|(go_at_call 197;refine(L.o _ bq).mono ?_;rintro x w1 ⟨rfl,hb1⟩;have di:g.1.size<=w1.1.size:=(by have h:=hb1.size;first|exact h|(simp at h;omega));first|(have ag:w1.1[g.1.size]?=some (.cells #[.int .i64 0,.int .i64 0,.int .i64 0,.slice none 0 0] 53 (0,0)):=(hb1.block g.1.size (by simp)).trans (Yx g.drew _);have ch:=Yy ag;obtain⟨⟨v0,v1,v2,v3⟩,vf⟩:=ch;have bs:=hid ag;clear ag)|skip))
  all_goals
   go_wp2_with fail;go_meet
   first|exact⟨_,rfl,(by first|exact Zc _|assumption|(simp;done)|omega),Zfl bs.o _ _ _ _,bq⟩|exact⟨_,rfl,(by first|exact Zc _|assumption|(simp;done)|omega),Yx _ _,bq⟩
 obtain⟨X,rfl,hX,ay,G⟩:=hcut.o;clear hcut z0 z1 z2 z3 z4 z5 z6 z7 z8 zf x0 x1 x2 x3 x4 x5 x6 xf;obtain⟨W3,rfl⟩:=ey wc;have ax:=hid (show Zbu w e f D cap X Z pp ff E 0 (.slice none 0 0) W3 from ⟨Zk _,oq,(G.block _ q).trans aa.o,(G.block _ ct).trans ar.o,ay,by rw[List.take_zero];exact XB.nil,HB.o.trans (G.mono oq)⟩);have bm:=(G.block _ q).trans aa.o;obtain⟨⟨x0,x1,x2,x3,x4,x5,x6⟩,xf⟩:=Y5 bm;clear ay G hX bm aa ar aq L;go_wp2;go_loopw [24] (fun s24 wr=>Hid (∃(i:Nat)(v:Value),s24=.int .i64 (i:Int)/\Zbu w e f D cap X Z pp ff E i v wr)) (fun s24 _=>E.length-(intOf s24).toNat)
 case atStart=>exact⟨0,_,rfl,ax.o⟩
 obtain⟨i,v,rfl,H⟩:=hrel.o;clear hrel ax x0 x1 x2 x3 x4 x5 x6 xf;have J:=hid H;obtain⟨⟨y0,y1,y2,y3⟩,yf⟩:=Yy H.bx;have de:=H.le;have dd:=H.hX;have ck:=Zb H.bx;have R:=H.low.size;by_cases bg:i<E.length
 .have cj:(i:Int)<(e.args.len:Int):=oq;obtain⟨⟨x0,x1,x2,x3,x4,x5,x6⟩,xf⟩:=Y5 H.b0;obtain⟨c,hc,_⟩:=PL.at_some e.args i oq;have ap:=hid (bo.o i c hc bg);obtain⟨⟨sx,ox⟩,am⟩:=ez (E[i]);rw[am] at ap;have cb:=hid am;have U:=hid (fun(w':World) (hb:Below wr.1.size wr w')=>br.o w' (J.o.low.trans (hb.mono R)) i c hc);obtain⟨cs,r1,r2,r3,r4⟩:=H.row;have bl:(E.take i).length=i:=by rw[Yc];omega
  rw[bl] at r2;obtain⟨av,cv,rfl⟩:=YC r2;have bw:=hid r1;have au:=hid r2;have bz:=hid r3;have ca:=hid r4;obtain⟨i0,bb,bc,bd,be⟩:=info_parts uq;have M:=hid (Zh bb (Zh bc (Zh bd be)));obtain⟨k5,dm,n5,d5,cc,a5⟩:=c;simp only at U;clear H r1 r2 r3 r4 am hc bb bc bd be bl;go_upto_region 5 with fail
  have O:X<wr.1.size:=ck;go_region_law (first|(refine step_append_lies _ (by rfl) _ _ _ (by rfl) w.1.size 92 i0 _ 2 32 underlying51 M.o.1 M.o.2.1 M.o.2.2.1 M.o.2.2.2 rfl oq (.slice av i cv) i cs.flatten (by rfl) ((own_below au.o HB6.o).alloc _) ⟨w6.1.size,0,none⟩ 1 1 [.int .i64 (sx:Int),.slice cd ox.length ce] (by rfl) (by rfl) (World.news_of_block (ZA _ _)) (by simp[Value.oneCell']) oq (by unfold maxLen;omega) oq (by simp;have:=HB6.o.size;omega) (w6.1.size+1) (by simp) ?_;intro gg cu w4 I A cw da;have cg:=J.o.app bg HB6.o cb.o bv.o bw.o au.o bz.o ca.o I A;obtain⟨⟨dk,dj⟩,bh⟩:=cg;have bu:=hid bh;clear bh I A)|(go_simp;first|(go_at_call 144;refine(U.o _ bq).mono ?_;rintro x w5 ⟨⟨ab,F,rfl,Y⟩,hb5⟩;have y:Below wr.1.size wr w5:=bq;obtain⟨⟨t0,t1,t2,t3⟩,tf⟩:=Yy ((y.block X O).trans J.o.bx);have aw:=hid Y;have HB5:=hid y;have cp:X<w5.1.size:=Zd O y.size;have db:¬X=w5.1.size:=Nat.ne_of_lt cp;clear hb5 y Y)|(go_at_call 148;refine(bp.o w5 (J.o.low.trans (HB5.o.mono R)) _ _ _ _ aw.o _ ap.o).mono ?_;rintro x w6 ⟨⟨v6,rfl,aj⟩,hb6⟩;obtain⟨cd,ce,rfl⟩:=YC aj;have z:Below wr.1.size wr w6:=HB5.o.trans (hb6.mono HB5.o.size);obtain⟨⟨t0,t1,t2,t3⟩,tf⟩:=Yy ((z.block X O).trans J.o.bx);have bv:=hid (Xq aj (Zm R HB5.o.size));have HB6:=hid z;have cq:X<w6.1.size:=Zd O z.size;have dc:¬X=w6.1.size:=Nat.ne_of_lt cq;clear hb6 z aj)))
  all_goals
   go_wp2;exact⟨hid ⟨i+1,_,by go_num,bu.o⟩,by simp[intOf];omega⟩
 obtain⟨⟨q0,q1,q2,q3⟩,qf⟩:=Yy H.b1;have dh:¬X=w.1.size+1:=oq;have cj:¬(i:Int)<(e.args.len:Int):=oq;clear H;obtain⟨⟨x0,x1,x2,x3,x4,x5,x6⟩,xf⟩:=Y5 J.o.b0;obtain⟨av,cv,ba⟩:=J.o.row.form;rw[show(E.take i).length=i by rw[Yc];omega] at ba;subst ba;go_wp2;have hu:=vg wr (w.1.size+1) (.int .i64 Z) (.int .i64 pp) (.int .i64 ff) (.slice av i cv);refine Zl (v:=.agg #[.int .i64 Z,.int .i64 pp,.int .i64 ff,.slice av i cv]) ?_ rfl ⟨⟨_,rfl,?_⟩,?_⟩
 .simp only[results,results147];go_simp
 .have hr:=J.o.row;rw[List.take_of_length_le oq] at hr;have bk:=Y4.of_upon J.o.b1 hu;exact hr.stays bk (by decide) (fun c x h=>h.stays bk (by decide))
 exact J.o.low.trans (hu.below R (ZY _ 1))
