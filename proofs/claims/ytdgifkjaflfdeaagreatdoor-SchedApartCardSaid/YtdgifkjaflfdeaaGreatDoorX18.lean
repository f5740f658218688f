/- Parts of the proof. -/
import Derived.Test.YtdgifkjaflfdeaaGreatDoorX17
set_option linter.all false
set_option maxRecDepth 100000
set_option maxHeartbeats 16000000
namespace Go.Proofs.YtdgifkjaflfdeaaGreatDoor.syn
open Tryz
open Go.RowKit
theorem kH{F:Fence}{n l:Nat}{P:Program}{o:Oper}{a:Act}{w:World}{K:Act->World->Prop}{Q:Exit->Act->World->Prop}(f:F.round=none)(hd:∀c,o.op≠.defer c)(h:o.wpIn F n P a w K Q):o.wpIn (F.inRound l) n P a w K Q:=by
 unfold Oper.wpIn at *;rw[f,Oper.semAt_none] at h;rw[Oper.semAt_eq _ _ _ hd];refine⟨h.1,?_⟩;have g:=h.2;generalize (execOp a.eval o).run P w=r at *
 cases r with
 | ok x w'=>cases x<;>exact g
 | halt x w'=>cases x<;>exact g
theorem zz{F:Fence}{n l:Nat}{P:Program}{md:Region.Mode}{f:Array Oper}{Q:Exit->Act->World->Prop}(j:F.round=none)(hd:∀(i:Nat)(o:Oper),f[i]?=some o->∀c,o.op≠.defer c) :
  ∀(fuel:Nat)(listed:Array Bool)(a:Act)(w:World),wpAnyIn F n P md f Q fuel listed a w->wpAnyIn (F.inRound l) n P md f Q fuel listed a w:=by
 intro fuel
 induction fuel with
 | zero=>intro listed a w h;exact h
 | succ fuel ih =>
  intro listed a w h;refine⟨h.1,fun i hi=>?_⟩;have g:=wpOpIn_mono (fun a' w' h'=>ih (listed.setIfInBounds i true) a' w' h') (h.2 i hi);unfold wpOpIn at *
  cases ho:f[i]? with
  | none=>simp only[ho] at g ⊢;exact g
  | some o =>
   simp only[ho] at g ⊢;split
   .rename_i hw
    simp only[hw,if_true] at g;exact kH j (hd i o ho) g
   rename_i hw
   simp only[hw] at g;exact g
def V4(o:Oper):Bool:=match o.op with|.defer _=>false|_=>true
theorem U9{n l m:Nat}{P:Program}{f:Array Oper}{Q:Exit->Act->World->Prop}{a:Act}{w:World}(j:P.follows .mixedOrders=true)(hd:f.toList.all V4=true)
  (h:wpAnyIn Fence.wide n P .any f Q f.size (Array.replicate f.size false) a { w with drawn:=w.drawn+1 }):(Code.region m f true).wpIn (Fence.wide.inRound l) n P Q a w:=by
 refine wpIn_region_any j (zz rfl (fun i o ho c e=>?_) _ _ _ _ h);have g:o∈f.toList:=by
  have:=Array.mem_of_getElem? ho;simpa using this
 have:=List.all_eq_true.1 hd o g;unfold V4 at this;rw[e] at this
 cases this
theorem jS{n:Nat}{P:Program}{row:String}{args:Array Value}{w:World}{R:Value->World->Prop}(h:Rows P row args w R):RowsIn Fence.wide n P row args w R :=
 fun c cs _=>let ⟨v,w',r,s⟩:=h c cs;⟨v,w',r,stepsIn_wide.2 s⟩
theorem uF{n:Nat}{P:Program}{o:Oper}{a:Act}{w:World}{K:Act->World->Prop}{Q:Exit->Act->World->Prop}(h:o.wp P a w K Q):o.wpIn Fence.wide n P a w K Q:=by
 unfold Oper.wpIn Oper.wp at *;refine⟨fun _ _=>trivial,?_⟩;rw[show(Fence.wide).round=none from rfl,Oper.semAt_none];generalize (execOp a.eval o).run P w=r at *
 cases r with
 | ok x w' =>
  cases x<;>first|exact h|exact⟨(fun k=>nomatch k),callsIn_wide.2 h⟩|exact⟨(fun k=>nomatch k),jS h⟩|exact h.elim
 | halt x w'=>cases x<;>first|exact h|exact h.elim
theorem xM{n:Nat}{P:Program}{f:Array Oper}{Q:Exit->Act->World->Prop}{i:Nat}{K:Act->World->Prop}{a:Act}{w:World}(hlet:¬LetsOut Q)(h:wpOp P f Q i K a w):wpOpIn Fence.wide n P f Q i K a w:=by
 unfold wpOp at h;unfold wpOpIn
 cases ho:f[i]? with
 | none=>simp only[ho] at h ⊢;exact h
 | some o =>
  simp only[ho] at h ⊢;split
  .rename_i hw
   simp only[hw,if_true] at h;exact uF (h.resolve_right (fun k=>hlet k.2))
  rename_i hw
  simp only[hw] at h;exact⟨fun _ _=>trivial,h⟩
theorem Uk{n:Nat}{P:Program}{md:Region.Mode}{f:Array Oper}{Q:Exit->Act->World->Prop}(hlet:¬LetsOut Q) :
  ∀(fuel:Nat)(listed:Array Bool)(a:Act)(w:World),wpAny P md f Q fuel listed a w->wpAnyIn Fence.wide n P md f Q fuel listed a w:=by
 intro fuel
 induction fuel with
 | zero=>intro listed a w h;exact h
 | succ fuel ih =>
  intro listed a w h;exact⟨h.1,fun i hi=>wpOpIn_mono (fun a' w' h'=>ih _ a' w' h') (xM hlet (h.2 i hi))⟩
theorem KV{ℓ n id:Nat}{P:Program}{Q:Exit->Act->World->Prop}{a:Act}{w:World}{l:List Oper}(k:Nat)(D:P.follows .mixedOrders=true)(hd:l.all V4=true)(hlet:¬LetsOut Q)(z:Region.lexTailB .any l.toArray k=true)
  (h:wpStill P l.toArray { w with drawn:=w.drawn+1 } (fun a'=>wpList P l.toArray Q (l.drop k) a' { w with drawn:=w.drawn+1 }) (l.take k) a):(Code.region id l.toArray true).wpIn (Fence.wide.inRound ℓ) n P Q a w:=by
 simp only[Region.lexTailB,Bool.and_eq_true,decide_eq_true_eq] at z;obtain⟨⟨⟨⟨v,A⟩,F⟩,C⟩,q⟩:=z;have E:k<l.length:=by simpa using A
 have f:(l.take k).length=k:=by simp;omega
 have m:(l.drop k).length=l.toArray.size-k:=by simp
 have x:HeadInv .any l.toArray k (Array.replicate l.toArray.size false) :=
  ⟨by simp,fun j oj _ hl=>(by rw[getD_replicate_false] at hl;cases hl),fun t _ ht=>getD_in (by simpa using ht) (getD_replicate_false _ _)⟩
 have H:=wpAnyL_lex (md:=.any) (g:=l.toArray.size-k) v F C A (l.take k) 0 _ a (fun j hj=>by
  have y:j<k:=by rw[f] at hj;exact hj
  simp[y]) (by simpa using f) x (by rw[f];exact q) h
 refine U9 D (by simpa using hd) (Uk hlet _ _ _ _ ?_);have:=wpAny_of_head (Q':=Q) (g:=l.toArray.size-k) (fun listed a' hL=>by
  have:=wpAny_of_seq (md:=.any) (Q':=Q) (l.drop k) k listed a' { w with drawn:=w.drawn+1 } (fun j=>by simp[List.getElem?_drop]) (by rw[m];exact hL.1) hL.2
  rwa [m] at this) _ _ _ H
 rw[f,show k+(l.toArray.size-k)=l.toArray.size by omega] at this;exact this
theorem zF{ℓ n id:Nat}{P:Program}{ops:Array Oper}{Q:Exit->Act->World->Prop}{a:Act}{w:World}(hm:P.follows .mixedOrders=true)(hd:ops.toList.all V4=true)(hlet:¬LetsOut Q)
  (h:wpAny P .any ops Q ops.size (Array.replicate ops.size false) a { w with drawn:=w.drawn+1 }):(Code.region id ops true).wpIn (Fence.wide.inRound ℓ) n P Q a w :=
 U9 hm hd (Uk hlet _ _ _ _ h)
open Go.RowKit Go.Shelf
def ye(p:PG)(an ai af ao:OA)(cn ci cf co:Nat)(mc mi mf mn mx:Nat):Obj :=
 .cells #[.slice an p.nodes.length cn,.slice ai p.ins.length ci,.slice af p.flows.length cf,.slice ao p.outs.length co,.map (some mc),.map (some mi),.map (some mf),.map (some mn),.map (some mx)] 255 (0,0)
def S6(m bx mc:Nat)(nm:ByteArray)(per ph fa:Int)(w':World):Prop :=
 w'.cell? ⟨m,4,none⟩=some (.map (some mc))/\w'.cell? ⟨bx,0,none⟩=some (.string nm)/\w'.cell? ⟨bx,1,none⟩=some (.int .i64 per)/\w'.cell? ⟨bx,2,none⟩=some (.int .i64 ph)/\w'.cell? ⟨bx,3,none⟩=some (.int .i64 fa)
def ZgN(w:World)(p:PG)(an ai af ao:OA)(cn ci cf co:Nat)(env':Env)(x:Ending)(w':World):Prop :=
 ∃m mc mi mf mn mx Lc Li Lf Ln,x=.returned (.pointer (some ⟨m,0,none⟩))/\MkS w w.1.size (ye p an ai af ao cn ci cf co mc mi mf mn mx) mc mi mf mn mx m w' Lc Li Lf Ln /\
  XW Lc (VE env' p.flows (Xb p.ins))/\XF Li (inI (p.ins.map (·.nm)) 0 (fun _=>none))/\XF Lf (inI (p.flows.map (·.nm)) 0 (fun _=>none))/\XF Ln (inI (p.nodes.map (·.nm)) 0 (fun _=>none))
def G9(w:World)(p:PG)(an ai af ao:OA)(cn ci cf co:Nat)(W:World)(Lc Li Lf Ln:List (ByteArray × Value)):Prop :=
 MkS w w.1.size (ye p an ai af ao cn ci cf co (w.1.size+1) (w.1.size+1+1) (w.1.size+1+1+1) (w.1.size+1+1+1+1) (w.1.size+1+1+1+1+1)) (w.1.size+1) (w.1.size+1+1) (w.1.size+1+1+1) (w.1.size+1+1+1+1) (w.1.size+1+1+1+1+1) (w.1.size+1+1+1+1+1+1) W Lc Li Lf Ln /\
  W.1[w.1.size]?=some (.cells #[.slice an p.nodes.length cn,.slice ai p.ins.length ci,.slice af p.flows.length cf,.slice ao p.outs.length co] 27 (0,0))
def Nw1(w:World)(p:PG)(an ai af ao:OA)(cn ci cf co:Nat)(v:Value)(wr:World):Prop :=
 ∃(i:Nat)(env:Env)(e:IE)(Lc Li:List (ByteArray × Value)),v=.int .i64 (i:Int)/\i<=p.ins.length/\G9 w p an ai af ao cn ci cf co wr Lc Li [] []/\XW Lc env/\XF Li e/\J5 (p.ins.drop i) env=Xb p.ins/\inI ((p.ins.drop i).map (·.nm)) i e=inI (p.ins.map (·.nm)) 0 (fun _=>none)
def Nw2(w:World)(p:PG)(an ai af ao:OA)(cn ci cf co:Nat)(env':Env)(Li:List (ByteArray × Value))(v:Value)(wr:World):Prop :=
 ∃(i:Nat)(env:Env)(e:IE)(Lc Lf:List (ByteArray × Value)),v=.int .i64 (i:Int)/\i<=p.flows.length/\G9 w p an ai af ao cn ci cf co wr Lc Li Lf []/\XW Lc env/\XF Lf e/\VE env' (p.flows.drop i) env=VE env' p.flows (Xb p.ins)/\inI ((p.flows.drop i).map (·.nm)) i e=inI (p.flows.map (·.nm)) 0 (fun _=>none)
def Nw3(w:World)(p:PG)(an ai af ao:OA)(cn ci cf co:Nat)(Lc Li Lf:List (ByteArray × Value))(v:Value)(wr:World):Prop :=
 ∃(i:Nat)(e:IE)(Ln:List (ByteArray × Value)),v=.int .i64 (i:Int)/\i<=p.nodes.length/\G9 w p an ai af ao cn ci cf co wr Lc Li Lf Ln/\XF Ln e/\inI ((p.nodes.drop i).map (·.nm)) i e=inI (p.nodes.map (·.nm)) 0 (fun _=>none)
theorem cell0{w:World}{b:Nat}{v:Value}{vs:List Value}{t:TypeId}(h:w.1[b]?=some (.cells (v::vs).toArray t (0,0))):w.cell? ⟨b,0,none⟩=some v/\∀o,w.frozen? ⟨b,o,none⟩=false:=by
 refine⟨by simp[World.cell?,h],fun o=>by simp[World.frozen?,h]⟩
theorem G9.grow{w:World}{p:PG}{an ai af ao:OA}{cn ci cf co:Nat}{W W':World}{Lc Li Lf Ln:List (ByteArray × Value)}(h:G9 w p an ai af ao cn ci cf co W Lc Li Lf Ln)(hb:Below W.1.size W W'):G9 w p an ai af ao cn ci cf co W' Lc Li Lf Ln :=
 ⟨h.1.grow hb,(hb.block _ (Zb h.2)).trans h.2⟩
theorem ZcS(w:World)(p:PG)(an g f j:OA)(v q m x:Nat):G9 w p an g f j v q m x (((((((w.alloc (.cells #[.slice an p.nodes.length v,.slice g p.ins.length q,.slice f p.flows.length m,.slice j p.outs.length x] 27)).alloc (.map #[] 0)).alloc (.map #[] 0)).alloc (.map #[] 0)).alloc (.map #[] 0)).alloc (.map #[] 0)).alloc
  (ye p an g f j v q m x (w.1.size+1) (w.1.size+1+1) (w.1.size+1+1+1) (w.1.size+1+1+1+1) (w.1.size+1+1+1+1+1))) [] [] [] []:=by
 obtain⟨A,y⟩:=ez (w.alloc (.cells #[.slice an p.nodes.length v,.slice g p.ins.length q,.slice f p.flows.length m,.slice j p.outs.length x] 27));have D:A.1.size=w.1.size+1:=by rw[<-y];simp
 have z:Below w.1.size w A:=by rw[<-y];exact bq
 have C:A.1[w.1.size]?=some (.cells #[.slice an p.nodes.length v,.slice g p.ins.length q,.slice f p.flows.length m,.slice j p.outs.length x] 27 (0,0)):=by rw[<-y];exact Yx w _
 rw[y];clear y;unfold G9;generalize ye p an g f j v q m x (w.1.size+1) (w.1.size+1+1) (w.1.size+1+1+1) (w.1.size+1+1+1+1) (w.1.size+1+1+1+1+1)=mo;rw[<-D];have E:=YT.new A;have F:=YT.new (A.alloc (.map #[] 0));have G:=YT.new ((A.alloc (.map #[] 0)).alloc (.map #[] 0));have H:=YT.new (((A.alloc (.map #[] 0)).alloc (.map #[] 0)).alloc (.map #[] 0));have I:=YT.new ((((A.alloc (.map #[] 0)).alloc (.map #[] 0)).alloc (.map #[] 0)).alloc (.map #[] 0));have J:=Yx (((((A.alloc (.map #[] 0)).alloc (.map #[] 0)).alloc (.map #[] 0)).alloc (.map #[] 0)).alloc (.map #[] 0)) mo;simp only[Zv] at E F G H I J;have up:∀(X:World)(o:Obj),Below X.1.size X (X.alloc o):=fun X o=>(Zg _ _).alloc (Zc _) _
 refine⟨⟨?_,oq,J,?_,?_,?_,?_,I.below (up _ _)⟩,?_⟩
 .exact z.trans (((((((Zg _ A).alloc oq _).alloc (by simp;omega) _).alloc (by simp;omega) _).alloc (by simp;omega) _).alloc (by simp;omega) _).alloc (by simp;omega) _)
 .exact((((E.below (up _ _)).below (up _ _)).below (up _ _)).below (up _ _)).below (up _ _)
 .exact(((F.below (up _ _)).below (up _ _)).below (up _ _)).below (up _ _)
 .exact((G.below (up _ _)).below (up _ _)).below (up _ _)
 .exact(H.below (up _ _)).below (up _ _)
 exact((((((Zg _ A).alloc (Zc _) _).alloc (by simp only[Zv];omega) _).alloc (by simp only[Zv];omega) _).alloc (by simp only[Zv];omega) _).alloc (by simp only[Zv];omega) _ |>.alloc (by simp only[Zv];omega) _).block _ oq |>.trans C
theorem xe{w:World}(p:PG)(an ai af ao:OA)(cn ci cf co:Nat)(hp:AP w p an ai af ao cn ci cf co)(bn:JW p)(C:Env)(bc:Nat)(bg:bc<w.1.size)(l:List (Int × Int))(hl:p.flows.map (fun f=>Jo C f.nm)=l)(hc:yy w bc l) :
  Calls prog 81 #[pv p an ai af ao cn ci cf co,.slice (some ⟨bc,0,none⟩) l.length l.length] w (ZgN w p an ai af ao cn ci cf co C):=by
 have cd:=bn.lens;have HP:=hid hp;have HC:=hid hc;have HL:=hid hl;have ca:=hp.caps;have az:l.length=p.flows.length:=by rw[<-hl,Zo]
 have bj:=fun w=>run_makeMap (P:=prog) 161 w
 have bk:=fun w=>run_makeMap (P:=prog) 252 w
 have bl:=fun w=>run_makeMap (P:=prog) 253 w
 clear hp bn hc hl;unfold pv;rw[az];have bd:=hid az;clear az;go_enter func81,ntmps81;go_wp2;have aq:=ZcS w p an ai af ao cn ci cf co;unfold ye at aq;obtain⟨W1,av⟩:∃W1,(((((((w.alloc (.cells #[.slice an p.nodes.length cn,.slice ai p.ins.length ci,.slice af p.flows.length cf,.slice ao p.outs.length co] 27)).alloc (.map #[] 0)).alloc (.map #[] 0)).alloc (.map #[] 0)).alloc (.map #[] 0)).alloc (.map #[] 0)).alloc
  (.cells #[.slice an p.nodes.length cn,.slice ai p.ins.length ci,.slice af p.flows.length cf,.slice ao p.outs.length co,.map (some (w.1.size+1)),.map (some (w.1.size+1+1)),.map (some (w.1.size+1+1+1)),.map (some (w.1.size+1+1+1+1)),.map (some (w.1.size+1+1+1+1+1))] 255))=W1:=⟨_,rfl⟩
 rw[av] at aq
 try rw[av]
 have be:=hid (show G9 w p an ai af ao cn ci cf co W1 [] [] [] [] from aq);clear aq av bj bk bl;go_loopw [23] (fun v wr=>Hid (Nw1 w p an ai af ao cn ci cf co v wr)) (fun i _=>p.ins.length-(intOf i).toNat)
 case atStart=>exact⟨0,fun _=>none,fun _=>none,[],[],rfl,Zk _,be.o,ZbY,XF.nil,rfl,rfl⟩
 obtain⟨i,env,e,Lc,Li,rfl,hi,R,hE,hI,A,j⟩:=hrel.o;clear hrel be;have HN:=hid R;have HE:=hid hE;have HI:=hid hI;have g:=R.1.low;have ah:=g.size;have ag:=Zb R.2;have ae:=R.1.lt;clear R hE hI;by_cases L:i<p.ins.length
 .obtain⟨bb,oo,rfl,U,D⟩:=HP.o.ins.at L;have J:=D.later g U;rw[gC L] at A j;obtain⟨f,hf⟩:=ez (p.ins[i]);rw[hf] at J A j;obtain⟨nm,y,ph,fa⟩:=f;obtain⟨y0,y1,y2,y3,_⟩:=J;simp only at y0 y1 y2 y3;have au:=hid (show J5 (p.ins.drop (i+1)) (upd env nm (y,ph))=Xb p.ins from A);have ak:=hid (show inI ((p.ins.drop (i+1)).map (·.nm)) (i+1) (VV e nm i)=inI (p.ins.map (·.nm)) 0 (fun _=>none) from j);have ay:(i:Int)<(p.ins.length:Int):=oq;have bf:bb<wr.1.size:=oq;clear D A j g;go_wp2;obtain⟨z,q⟩:=ez (wr.alloc (.cells #[.string nm,.int .i64 y,.int .i64 ph,.int .i64 fa] 153));have hb2:Below wr.1.size wr z:=by rw[<-q];exact(Zg _ _).alloc (Zc _) _
  have I:z.1[wr.1.size]?=some (.cells #[.string nm,.int .i64 y,.int .i64 ph,.int .i64 fa] 153 (0,0)):=by rw[<-q];exact Yx wr _
  have bp:z.1.size=wr.1.size+1:=by rw[<-q];simp
  rw[q];clear q y0 y1 y2 y3;have m:=hid (HN.o.grow hb2);obtain⟨⟨c0,c1,c2,c3⟩,Y⟩:=Yy I;obtain⟨⟨x0,x1,x2,x3,x4,x5,x6,x7,x8⟩,xf⟩:=Y1 (show z.1[w.1.size+1+1+1+1+1+1]?=_ from m.o.1.box);have HB2:=hid I;clear hb2 I;go_still_tail 7,kq
  change wpList _ _ _ _ _ z.drew
  go_wp2_with (at_mapUpdate;refine XE Q0 _ rfl _ _ _ rfl (w.1.size+1+1) Li nm (.int .i64 (i:Int)) rfl rfl rfl (show YT z.drew _ _ from m.o.1.i) ?_;intro arr clock ab);obtain⟨E,H⟩:=ez (World.putM z.drew (w.1.size+1+1) (.map arr clock));have O:Upon (w.1.size+1+1) z E:=by rw[<-H];exact YR ((Upon.refl _ _).drew) _
  have hd:Below z.1.size z z.drew:=(Zg _ _).drew;have T:G9 w p an (some ⟨bb,oo,none⟩) af ao cn ci cf co E Lc (JB nm (.int .i64 (i:Int)) Li) [] []:=by
   rw[<-H];exact⟨(m.o.1.grow hd).putI ab,by have:=(O.block _ (Zb m.o.2) oq).trans m.o.2;rw[<-H] at this;exact this⟩
  have aj:E.1[wr.1.size]?=_:=(O.block _ oq oq).trans HB2.o;rw[H];clear H ab c0 c1 c2 c3 Y x0 x1 x2 x3 x4 x5 x6 x7 x8 xf;have F:=hid T;have ac:=Zb aj;have bm:=T.1.lt;obtain⟨⟨c0,c1,c2,c3⟩,Y⟩:=Yy aj;obtain⟨⟨x0,x1,x2,x3,x4,x5,x6,x7,x8⟩,xf⟩:=Y1 (show E.1[w.1.size+1+1+1+1+1+1]?=_ from T.1.box);have KA:=hid (show S6 (w.1.size+1+1+1+1+1+1) wr.1.size (w.1.size+1) nm y ph fa E.drew from ⟨x4,c0,c1,c2,c3⟩);have KB:=hid (show ∀X,Below E.drew.1.size E.drew X->S6 (w.1.size+1+1+1+1+1+1) wr.1.size (w.1.size+1) nm y ph fa X from fun X hb=>⟨(hb.cell (p:=⟨_,4,none⟩) bm).trans x4,(hb.cell (p:=⟨_,0,none⟩) ac).trans c0,(hb.cell (p:=⟨_,1,none⟩) ac).trans c1,(hb.cell (p:=⟨_,2,none⟩) ac).trans c2,(hb.cell (p:=⟨_,3,none⟩) ac).trans c3⟩);have KP:=hid (show ∀X,Below E.drew.1.size E.drew X->∀o,S6 (w.1.size+1+1+1+1+1+1) wr.1.size (w.1.size+1) nm y ph fa (World.putM X (w.1.size+1) o) from fun X hb o=>by
   have hf:∀(b o':Nat),b≠w.1.size+1->(World.putM X (w.1.size+1) o).cell? ⟨b,o',none⟩=X.cell? ⟨b,o',none⟩:=fun b o' hne=>by
    refine Zn ?_;show(X.1.setIfInBounds (w.1.size+1) o)[b]?=X.1[b]?;rw[Array.getElem?_setIfInBounds_ne (fun e=>hne e.symm)]
   obtain⟨h0,h1,h2,h3,h4⟩:=KB.o X hb;exact⟨(hf _ _ oq).trans h0,(hf _ _ oq).trans h1,(hf _ _ oq).trans h2,(hf _ _ oq).trans h3,(hf _ _ oq).trans h4⟩)
  have bv:=hid (VG (w:=E.drew) nm y ph fa);clear T O hd aj x0 x1 x2 x3 x4 x5 x6 x7 x8 xf c0 c1 c2 c3 Y;go_region_held3 (fun w'=>w'.cell? ⟨w.1.size+1+1+1+1+1+1,4,none⟩=some (.map (some (w.1.size+1)))/\w'.cell? ⟨wr.1.size,0,none⟩=some (.string nm)/\w'.cell? ⟨wr.1.size,1,none⟩=some (.int .i64 y)/\w'.cell? ⟨wr.1.size,2,none⟩=some (.int .i64 ph)/\w'.cell? ⟨wr.1.size,3,none⟩=some (.int .i64 fa)) ((show S6 (w.1.size+1+1+1+1+1+1) wr.1.size (w.1.size+1) nm y ph fa _;first|with_reducible exact KA.o|(with_reducible exact KB.o _ hb4)|(with_reducible exact KP.o _ hb4 _))) (first|(go_at_call 141;refine bv.o.mono ?_;rintro x X ⟨rfl,hb4⟩;obtain⟨al,M,bz,ba⟩:=EK QI (F.o.1.c.below (show Below E.1.size E X from(Zg _ _).drew.trans hb4)) nm (.agg #[.int .i64 y,.int .i64 ph])));go_wp2;refine⟨⟨i+1,upd env nm (y,ph),VV e nm i,_,_,by go_num,oq,⟨(F.o.1.grow ((Zg _ _).drew.trans hb4)).putC ba,?_⟩,HE.o.put nm (y,ph),HI.o.put nm i,au.o,ak.o⟩,by simp[intOf];omega⟩;have hb:Below E.1.size E X:=(Zg _ _).drew.trans hb4;exact((YR (Upon.refl _ X) (.map al M)).block _ (Zb ((hb.block _ (Zb F.o.2)).trans F.o.2)) oq).trans ((hb.block _ (Zb F.o.2)).trans F.o.2)
 have V:i=p.ins.length:=oq;subst V;have ay:¬(p.ins.length:Int)<(p.ins.length:Int):=oq;rw[Yq] at A j;have am:=hid (show XW Lc (Xb p.ins) from(show env=Xb p.ins from A)▸HE.o);have bu:=hid (show XF Li (inI (p.ins.map (·.nm)) 0 (fun _=>none)) from(show e=_ from j)▸HI.o);clear A j HE HI g;obtain⟨⟨q0,q1,q2,q3⟩,qf⟩:=Yy HN.o.2;go_wp2;obtain⟨w0,rfl⟩:=ey wr;clear q0 q1 q2 q3 qf ah ag ae;go_loopw [47] (fun v wr=>Hid (Nw2 w p an ai af ao cn ci cf co C Li v wr)) (fun i _=>p.flows.length-(intOf i).toNat)
 case atStart=>exact⟨0,_,fun _=>none,_,[],rfl,Zk _,HN.o,am.o,XF.nil,rfl,rfl⟩
 clear HN am;obtain⟨i,env,e,ap,Lf,rfl,cb,R,hE,hI,A,j⟩:=hrel.o;clear hrel;have HN:=hid R;have HE:=hid hE;have HI:=hid hI;have g:=R.1.low;have ah:=g.size;have ag:=Zb R.2;have ae:=R.1.lt;clear R hE hI;by_cases L:i<p.flows.length
 .have bh:(i:Int)<(p.flows.length:Int):=oq;obtain⟨Z,aa⟩:=HC.o i (by rw[bd.o];exact L);have bi:l[i]'(by rw[bd.o];exact L)=Jo C p.flows[i].nm:=by
   have:=HL.o;subst this;rw[List.getElem_map]
  rw[bi] at Z aa;have Z:=(g.cell (p:=⟨bc,i*2,none⟩) bg).trans Z;have aa:=(g.cell (p:=⟨bc,i*2+1,none⟩) bg).trans aa;clear bi;obtain⟨bb,oo,rfl,U,D⟩:=HP.o.flows.at L;have J:=Vs w wr bb _ _ g U D;rw[yT L] at A j;obtain⟨f,hf⟩:=ez (p.flows[i]);rw[hf] at J A j Z aa;obtain⟨nm,⟨k1,nm1,n1,d1,G,a1⟩,fa⟩:=f;obtain⟨ad,cap,y0,y1,y2,y3,y4,y5,y6,y7,aw,ax⟩:=J.cells;obtain⟨⟨y,ph⟩,bo⟩:=ez (Jo C nm);simp only[bo] at Z aa y0 y1 y2 y3 y4 y5 y6 y7;have au:=hid (show VE C (p.flows.drop (i+1)) (upd env nm (y,ph))=VE C p.flows (Xb p.ins) by rw[<-bo];exact A);have ak:=hid (show inI ((p.flows.drop (i+1)).map (·.nm)) (i+1) (VV e nm i)=inI (p.flows.map (·.nm)) 0 (fun _=>none) from j);have bf:bb<wr.1.size:=oq;have ar:bc<wr.1.size:=oq;clear D A j g J aw ax;go_wp2;obtain⟨z,q⟩:=ez (wr.alloc (.cells #[.string nm,.int .i64 k1,.string nm1,.int .i64 n1,.int .i64 d1,.slice ad G.len cap,.int .i64 a1,.int .i64 fa] 155));have hb2:Below wr.1.size wr z:=by rw[<-q];exact(Zg _ _).alloc (Zc _) _
  have I:z.1[wr.1.size]?=some (.cells #[.string nm,.int .i64 k1,.string nm1,.int .i64 n1,.int .i64 d1,.slice ad G.len cap,.int .i64 a1,.int .i64 fa] 155 (0,0)):=by rw[<-q];exact Yx wr _
  have bp:z.1.size=wr.1.size+1:=by rw[<-q];simp
  rw[q];clear q y0 y1 y2 y3 y4 y5 y6 y7;have m:=hid (HN.o.grow hb2);have g1:=(hb2.cell (p:=⟨bc,i*2,none⟩) ar).trans Z;have g2:=(hb2.cell (p:=⟨bc,i*2+1,none⟩) ar).trans aa;obtain⟨c0,Y⟩:=cell0 I;obtain⟨⟨x0,x1,x2,x3,x4,x5,x6,x7,x8⟩,xf⟩:=Y1 (show z.1[w.1.size+1+1+1+1+1+1]?=_ from m.o.1.box);have HB2:=hid I;have bs:=hid g1;have bt:=hid g2;clear hb2 I Z aa g1 g2;go_still_tail 7,kq
  change wpList _ _ _ _ _ z.drew
  go_wp2_with (at_mapUpdate;refine XE Q0 _ rfl _ _ _ rfl (w.1.size+1+1+1) Lf nm (.int .i64 (i:Int)) rfl rfl rfl (show YT z.drew _ _ from m.o.1.f) ?_;intro arr clock ab);obtain⟨E,H⟩:=ez (World.putM z.drew (w.1.size+1+1+1) (.map arr clock));have O:Upon (w.1.size+1+1+1) z E:=by rw[<-H];exact YR ((Upon.refl _ _).drew) _
  have hd:Below z.1.size z z.drew:=(Zg _ _).drew;have T:G9 w p an ai (some ⟨bb,oo,none⟩) ao cn ci cf co E ap Li (JB nm (.int .i64 (i:Int)) Lf) []:=by
   rw[<-H];exact⟨(m.o.1.grow hd).putF ab,by have:=(O.block _ (Zb m.o.2) oq).trans m.o.2;rw[<-H] at this;exact this⟩
  have aj:E.1[wr.1.size]?=_:=(O.block _ oq oq).trans HB2.o;have g1:E.cell? ⟨bc,i*2,none⟩=_:=(Zn (a:=⟨bc,i*2,none⟩) (O.block bc oq oq)).trans bs.o;have g2:E.cell? ⟨bc,i*2+1,none⟩=_:=(Zn (a:=⟨bc,i*2+1,none⟩) (O.block bc oq oq)).trans bt.o;rw[H];clear H ab c0 Y x0 x1 x2 x3 x4 x5 x6 x7 x8 xf;have F:=hid T;obtain⟨c0,Y⟩:=cell0 aj;obtain⟨⟨x0,x1,x2,x3,x4,x5,x6,x7,x8⟩,xf⟩:=Y1 (show E.1[w.1.size+1+1+1+1+1+1]?=_ from T.1.box);clear T O hd aj;go_still_tail 10,kq
  change wpList _ _ _ _ _ E.drew
  go_wp2_with (at_mapUpdate;refine XE QI _ rfl _ _ _ rfl (w.1.size+1) ap nm (cvv (y,ph)) rfl rfl rfl (show YT E.drew _ _ from F.o.1.c) ?_;intro al M ba);refine⟨⟨i+1,upd env nm (y,ph),VV e nm i,_,_,by go_num,oq,⟨(F.o.1.grow (Zg _ _).drew).putC ba,?_⟩,HE.o.put nm (y,ph),HI.o.put nm i,au.o,ak.o⟩,by simp[intOf];omega⟩;exact((YR ((Upon.refl _ E).drew) (.map al M)).block _ (Zb F.o.2) oq).trans F.o.2
 have V:i=p.flows.length:=oq;subst V;have ay:¬(p.flows.length:Int)<(p.flows.length:Int):=oq;rw[Yq] at A j;have am:=hid (show XW ap (VE C p.flows (Xb p.ins)) from(show env=_ from A)▸HE.o);have br:=hid (show XF Lf (inI (p.flows.map (·.nm)) 0 (fun _=>none)) from(show e=_ from j)▸HI.o);clear A j HE HI g;obtain⟨⟨q0,q1,q2,q3⟩,qf⟩:=Yy HN.o.2;go_wp2;obtain⟨w1,rfl⟩:=ey wr;clear q0 q1 q2 q3 qf ah ag ae;go_loopw [73] (fun v wr=>Hid (Nw3 w p an ai af ao cn ci cf co ap Li Lf v wr)) (fun i _=>p.nodes.length-(intOf i).toNat)
 case atStart=>exact⟨0,fun _=>none,[],rfl,Zk _,HN.o,XF.nil,rfl⟩
 clear HN;obtain⟨i,e,Ln,rfl,cc,R,hI,j⟩:=hrel.o;clear hrel;have HN:=hid R;have HI:=hid hI;have g:=R.1.low;have ah:=g.size;have ag:=Zb R.2;have ae:=R.1.lt;clear R hI;by_cases L:i<p.nodes.length
 .have bh:(i:Int)<(p.nodes.length:Int):=oq;obtain⟨bb,oo,rfl,U,D⟩:=HP.o.nodes.at L;have J:=Vk w wr bb _ _ g U D;rw[gD L] at j;obtain⟨x,hx⟩:=ez (p.nodes[i]);rw[hx] at J j;obtain⟨nm,ps,bud,⟨k1,nm1,n1,d1,G,a1⟩,fa⟩:=x;obtain⟨pa,pc,ad,cap,y0,y1,y2,y3,y4,y5,y6,y7,y8,y9,aw,bx,ax⟩:=J.cells;have ak:=hid (show inI ((p.nodes.drop (i+1)).map (·.nm)) (i+1) (VV e nm i)=inI (p.nodes.map (·.nm)) 0 (fun _=>none) from j);have bf:bb<wr.1.size:=oq;clear D j g J aw ax bx;go_wp2;obtain⟨z,q⟩:∃z,wr.alloc (.cells #[.string nm,.slice pa ps.length pc,.int .i64 bud,.int .i64 k1,.string nm1,.int .i64 n1,.int .i64 d1,.slice ad G.len cap,.int .i64 a1,.int .i64 fa] 113)=z:=⟨_,rfl⟩;have hb2:Below wr.1.size wr z:=by rw[<-q];exact(Zg _ _).alloc (Zc _) _
  have I:z.1[wr.1.size]?=some (.cells #[.string nm,.slice pa ps.length pc,.int .i64 bud,.int .i64 k1,.string nm1,.int .i64 n1,.int .i64 d1,.slice ad G.len cap,.int .i64 a1,.int .i64 fa] 113 (0,0)):=by rw[<-q];exact Yx wr _
  have bp:z.1.size=wr.1.size+1:=by rw[<-q];simp
  rw[q];clear q y0 y1 y2 y3 y4 y5 y6 y7 y8 y9;have m:=hid (HN.o.grow hb2);obtain⟨c0,Y⟩:=cell0 I;obtain⟨⟨x0,x1,x2,x3,x4,x5,x6,x7,x8⟩,xf⟩:=Y1 (show z.1[w.1.size+1+1+1+1+1+1]?=_ from m.o.1.box);clear hb2 I;go_still_tail 7,kq
  change wpList _ _ _ _ _ z.drew
  go_wp2_with (at_mapUpdate;refine XE Q0 _ rfl _ _ _ rfl (w.1.size+1+1+1+1) Ln nm (.int .i64 (i:Int)) rfl rfl rfl (show YT z.drew _ _ from m.o.1.nd) ?_;intro arr clock ab);refine⟨⟨i+1,VV e nm i,_,by go_num,oq,⟨(m.o.1.grow (Zg _ _).drew).putN ab,?_⟩,HI.o.put nm i,ak.o⟩,by simp[intOf];omega⟩;exact((YR ((Upon.refl _ z).drew) (.map arr clock)).block _ (Zb m.o.2) oq).trans m.o.2
 have V:i=p.nodes.length:=oq;subst V;have ay:¬(p.nodes.length:Int)<(p.nodes.length:Int):=oq;rw[Yq] at j;have bw:=hid (show XF Ln (inI (p.nodes.map (·.nm)) 0 (fun _=>none)) from(show e=_ from j)▸HI.o);clear j HI g;go_wp2;go_ret;exact⟨_,_,_,_,_,_,_,_,_,_,rfl,HN.o.1,am.o,bu.o,br.o,bw.o⟩
attribute [local go_sem] ZU
theorem YT.same{w w':World}{mb:Nat}{L:List (ByteArray × Value)}(h:YT w mb L)(e:w'.1[mb]?=w.1[mb]?):YT w' mb L:=by
 obtain⟨a,c,f,g⟩:=h;exact⟨a,c,e.trans f,g⟩
structure Mkr (W0:World) (p:PG) (an ai af ao:OA) (cn ci cf co mc mi mf mn mx m:Nat) (Lc Li Lf Ln Lx:List (ByteArray × Value)) (W:World):Prop where
 low:Below W0.1.size W0 W
 ord:W0.1.size<=mc/\mc<mi/\mi<mf/\mf<mn/\mn<mx/\mx<m
 box:MkB W m p an ai af ao cn ci cf co mc mi mf mn mx
 c:YT W mc Lc
 i:YT W mi Li
 f:YT W mf Lf
 nd:YT W mn Ln
 x:YT W mx Lx
section
variable {W0:World} {p:PG} {an ai af ao:OA} {cn ci cf co mc mi mf mn mx m:Nat} {Lc Li Lf Ln Lx:List (ByteArray × Value)} {W W':World}
theorem Mkr.lt(h:Mkr W0 p an ai af ao cn ci cf co mc mi mf mn mx m Lc Li Lf Ln Lx W):m<W.1.size:=Zb h.box
theorem Mkr.keep(h:Mkr W0 p an ai af ao cn ci cf co mc mi mf mn mx m Lc Li Lf Ln Lx W){B:Nat}(g:m<B)(hb:Below B W W'):Mkr W0 p an ai af ao cn ci cf co mc mi mf mn mx m Lc Li Lf Ln Lx W':=by
 have j:=h.ord;exact⟨h.low.trans (hb.mono oq),j,(hb.block m g).trans h.box,h.c.same (hb.block _ oq),h.i.same (hb.block _ oq),h.f.same (hb.block _ oq),h.nd.same (hb.block _ oq),h.x.same (hb.block _ oq)⟩
theorem Mkr.grow(h:Mkr W0 p an ai af ao cn ci cf co mc mi mf mn mx m Lc Li Lf Ln Lx W)(hb:Below W.1.size W W'):Mkr W0 p an ai af ao cn ci cf co mc mi mf mn mx m Lc Li Lf Ln Lx W':=h.keep h.lt hb
theorem Mkr.putX(h:Mkr W0 p an ai af ao cn ci cf co mc mi mf mn mx m Lc Li Lf Ln Lx W){o:Obj}{L:List (ByteArray × Value)}(j:YT (World.putM W mx o) mx L):Mkr W0 p an ai af ao cn ci cf co mc mi mf mn mx m Lc Li Lf Ln L (World.putM W mx o):=by
 have g:Upon mx W (World.putM W mx o):=YR (Upon.refl _ _) _;have q:=h.ord;exact⟨QG h.low oq _,q,(g.block _ h.lt oq).trans h.box,h.c.upon g oq,h.i.upon g oq,h.f.upon g oq,h.nd.upon g oq,j⟩
end
theorem Zf1{w:World}{p:PG}{an ai af ao:OA}{cn ci cf co mc mi mf mn mx m:Nat}{Lc Li Lf Ln:List (ByteArray × Value)}{w':World}(h:MkS w w.1.size (ye p an ai af ao cn ci cf co mc mi mf mn mx) mc mi mf mn mx m w' Lc Li Lf Ln):Mkr w p an ai af ao cn ci cf co mc mi mf mn mx m Lc Li Lf Ln [] w' :=
 ⟨h.low,h.ord,h.box,h.c,h.i,h.f,h.nd,h.x⟩
theorem JJ{B:Nat}{X Y:World}{row:Option Nat}(hg:X.grownBy Y row)(hr:∀r,row=some r->B<=r/\∃o:Obj,X.1[r]?=some o/\o.isCells=false)(hB:B<=X.1.size):Below B X Y :=
 ownFrom_below (β:=Unit) (w₀:=X) hB (Zc B) () X Y row (Zg _ _) hg hr
def YN:List FL->Nat->List (PE × ByteArray)
 | [],_=>[]
 | f::l,i=>(YV f.e (dg i)).filter isC++YN l (i+1)
theorem gL:∀(a b:List ByteArray)(i:Nat)(e:IE),inI (a++b) i e=inI b (i+a.length) (inI a i e)
 | [],b,i,e=>by simp[inI]
 | k::a,b,i,e=>by
  rw[ZD,inI,inI,gL a b (i+1) _,Zp,show i+1+a.length=i+(a.length+1) by omega]
theorem Zch(a:List ByteArray)(k:ByteArray)(e:IE):inI (a++[k]) 0 e=VV (inI a 0 e) k a.length:=by
 rw[gL,ZE];rfl
structure Ve (W0:World) (p:PG) (an ai af ao:OA) (cn ci cf co mc mi mf mn mx m:Nat) (Lc Li Lf Ln:List (ByteArray × Value)) (w:World) (B:Nat) (Ds:List Nat) (ways:List ByteArray) (X:World):Prop where
 mkr:∃Lx,Mkr W0 p an ai af ao cn ci cf co mc mi mf mn mx m Lc Li Lf Ln Lx X/\XF Lx (inI ways 0 (fun _=>none))
 up:Upon mx w X
 lt:m<w.1.size
 size:w.1.size+4<=B
 bsize:B<=X.1.size
 b0:Boxed X w.1.size 167 (.pointer (some ⟨m,0,none⟩))
 b1:Boxed X (w.1.size+1) 3 (.int .i64 0)
 b2:Boxed X (w.1.size+1+1) 38 (.int .i64 0)
 b3:Boxed X (w.1.size+1+1+1) 3 (.int .i64 (ways.length:Int))
 few:ways.length<=30
 marks:Mks w.1.size Ds X
 under:∀D∈Ds,D<B
section
variable {W0:World} {p:PG} {an ai af ao:OA} {cn ci cf co mc mi mf mn mx m:Nat} {Lc Li Lf Ln:List (ByteArray × Value)} {w:World} {B:Nat} {Ds:List Nat} {ways:List ByteArray} {X Y:World}
theorem Upon.then_below{r B:Nat}{a b c:World}(h:Upon r a b)(k:Below B b c)(hB:a.1.size<=B):Upon r a c :=
 ⟨k.os.trans h.os,k.tape.trans h.tape,k.output.trans h.output,Zm h.size k.size,fun i hi hr=>(k.block i (Zd hi hB)).trans (h.block i hi hr)⟩
theorem Ve.keep(h:Ve W0 p an ai af ao cn ci cf co mc mi mf mn mx m Lc Li Lf Ln w B Ds ways X)(hb:Below B X Y):Ve W0 p an ai af ao cn ci cf co mc mi mf mn mx m Lc Li Lf Ln w B Ds ways Y:=by
 obtain⟨f,g,j⟩:=h.mkr;have q:=h.lt;have v:=h.size;exact⟨⟨f,g.keep oq hb,j⟩,h.up.then_below hb oq,q,v,Zm h.bsize hb.size,(hb.block _ oq).trans h.b0,(hb.block _ oq).trans h.b1,(hb.block _ oq).trans h.b2,(hb.block _ oq).trans h.b3,h.few,
  ⟨fun D hD=>⟨(h.marks.1 D hD).1,(hb.block D (h.under D hD)).trans (h.marks.1 D hD).2⟩,h.marks.2⟩,h.under⟩
theorem Ve.more(h:Ve W0 p an ai af ao cn ci cf co mc mi mf mn mx m Lc Li Lf Ln w B Ds ways X){B':Nat}(h1:B<=B')(h2:B'<=X.1.size):Ve W0 p an ai af ao cn ci cf co mc mi mf mn mx m Lc Li Lf Ln w B' Ds ways X :=
 ⟨h.mkr,h.up,h.lt,Zm h.size h1,h2,h.b0,h.b1,h.b2,h.b3,h.few,h.marks,fun D hD=>Zd (h.under D hD) h1⟩
theorem Ve.own{row:Option Nat}(h:Ve W0 p an ai af ao cn ci cf co mc mi mf mn mx m Lc Li Lf Ln w B Ds ways X)(hg:X.grownBy Y row)(hr:∀r,row=some r->B<=r/\∃o:Obj,X.1[r]?=some o/\o.isCells=false):Ve W0 p an ai af ao cn ci cf co mc mi mf mn mx m Lc Li Lf Ln w B Ds ways Y :=
 h.keep (JJ hg hr h.bsize)
theorem Ve.step(h:Ve W0 p an ai af ao cn ci cf co mc mi mf mn mx m Lc Li Lf Ln w B Ds ways X){q:List (ByteArray × Value)}(z:Mkr W0 p an ai af ao cn ci cf co mc mi mf mn mx m Lc Li Lf Ln q X)(E:XF q (inI ways 0 (fun _=>none)))(k:ByteArray){o:Obj}
  (H:YT (World.putM X.drew mx o) mx (JB k (.int .i64 (ways.length:Int)) q))(G:ways.length<30) :
  Ve W0 p an ai af ao cn ci cf co mc mi mf mn mx m Lc Li Lf Ln w B Ds (ways++[k]) ((World.putM X.drew mx o).setCell ⟨w.1.size+1+1+1,0,none⟩ (.int .i64 ((ways.length:Int)+1))):=by
 have j:=h.lt;have A:=h.size;have C:=h.bsize;have I:=z.ord;have y:Upon mx X (World.putM X.drew mx o):=YR (Upon.refl _ _).drew _;have v:=(z.grow (Zg _ _).drew).putX H;have F:∀k,k≠w.1.size+1+1+1->((World.putM X.drew mx o).setCell ⟨w.1.size+1+1+1,0,none⟩ (.int .i64 ((ways.length:Int)+1))).1[k]?=(World.putM X.drew mx o).1[k]?:=fun k g=>Zr _ _ _ _ (fun e=>g e)
 have g:∀k,k<X.1.size->k≠mx->k≠w.1.size+1+1+1->((World.putM X.drew mx o).setCell ⟨w.1.size+1+1+1,0,none⟩ (.int .i64 ((ways.length:Int)+1))).1[k]?=X.1[k]?:=fun k h1 h2 j=>(F k j).trans (y.block k h1 h2)
 refine⟨⟨_,v.keep (B:=w.1.size) j ((Zg _ _).setCell (p:=⟨w.1.size+1+1+1,0,none⟩) (by show w.1.size<=w.1.size+1+1+1;omega) _),?_⟩,?_,j,A,?_,?_,?_,?_,?_,?_,⟨fun D hD=>⟨(h.marks.1 D hD).1,?_⟩,h.marks.2⟩,h.under⟩
 .rw[Zch];exact E.put k ways.length
 .exact(YR h.up.drew _).setCell (p:=⟨w.1.size+1+1+1,0,none⟩) (Or.inr (by show w.1.size<=w.1.size+1+1+1;omega)) _
 .refine Zm C (Zm y.size ?_);exact((Zg 0 (World.putM X.drew mx o)).setCell (p:=⟨w.1.size+1+1+1,0,none⟩) (Zk _) _).size
 .exact(g _ oq oq oq).trans h.b0
 .exact(g _ oq oq oq).trans h.b1
 .exact(g _ oq oq oq).trans h.b2
 .have hb3:Boxed (World.putM X.drew mx o) (w.1.size+1+1+1) 3 (.int .i64 (ways.length:Int)):=(y.block _ oq oq).trans h.b3;have:=hb3.set (.int .i64 ((ways.length:Int)+1));rw[show(((ways++[k]).length:Nat):Int)=(ways.length:Int)+1 by simp];exact this
 .simp;omega
 have f:=(h.marks.1 D hD).2;have x:D≠w.1.size+1+1+1:=by
  intro e;rw[e] at f;have:=h.b3;unfold Boxed at this;rw[this] at f
  cases f
 exact(g D (Zb f) (by have:=(h.marks.1 D hD).1;omega) x).trans f
theorem Ve.mark(h:Ve W0 p an ai af ao cn ci cf co mc mi mf mn mx m Lc Li Lf Ln w B Ds ways X){D:Nat}(g:B<=D)(f:X.1[D]?=some (.deferred (some []))):Ve W0 p an ai af ao cn ci cf co mc mi mf mn mx m Lc Li Lf Ln w X.1.size (D::Ds) ways X:=by
 have j:=h.size;refine⟨h.mkr,h.up,h.lt,Zm h.size h.bsize,Zc _,h.b0,h.b1,h.b2,h.b3,h.few,⟨fun D' hD'=>?_,List.nodup_cons.2 ⟨fun hm=>?_,h.marks.2⟩⟩,fun D' hD'=>?_⟩
 .rcases ZS.1 hD' with rfl|hm
  .exact⟨oq,f⟩
  exact h.marks.1 D' hm
 .have:=h.under D hm;omega
 rcases ZS.1 hD' with rfl|hm
 .exact Zb f
 have:=h.under D' hm;have:=h.bsize;omega
structure ZdR (W0 w:World) (B:Nat) (Ds:List Nat) (X:World):Prop where
 low:Below W0.1.size W0 X
 size:w.1.size+4<=B
 bsize:B<=X.1.size
 b1:∃a,Boxed X (w.1.size+1) 3 (.int .i64 a)
 b2:Boxed X (w.1.size+1+1) 38 (.int .i64 8)
 marks:Mks w.1.size Ds X
 under:∀D∈Ds,D<B
end
section
variable {W0 w:World} {B:Nat} {Ds:List Nat} {X Y:World}
theorem ZdR.own(f:W0.1.size<=w.1.size){row:Option Nat}(h:ZdR W0 w B Ds X)(j:X.grownBy Y row)(m:∀r,row=some r->B<=r/\∃o:Obj,X.1[r]?=some o/\o.isCells=false):ZdR W0 w B Ds Y:=by
 have hb:=JJ j m h.bsize;have q:=h.size;obtain⟨a,g⟩:=h.b1;exact⟨h.low.trans (hb.mono oq),q,Zm h.bsize hb.size,⟨a,(hb.block _ oq).trans g⟩,(hb.block _ oq).trans h.b2,⟨fun D hD=>⟨(h.marks.1 D hD).1,(hb.block D (h.under D hD)).trans (h.marks.1 D hD).2⟩,h.marks.2⟩,h.under⟩
end
def Zfw(W0:World)(p:PG)(an ai af ao:OA)(cn ci cf co mc mi mf mn mx m:Nat)(Lc Li Lf Ln:List (ByteArray × Value))(w:World)(x:Ending)(w':World):Prop :=
 (∃a,x=.returned (.tuple #[.int .i64 a,.int .i64 8])/\30<(YN p.flows 0).length/\Below W0.1.size W0 w') \/
  (x=.returned (.tuple #[.int .i64 0,.int .i64 0])/\(YN p.flows 0).length<=30/\Upon mx w w'/\∃Lx,Mkr W0 p an ai af ao cn ci cf co mc mi mf mn mx m Lc Li Lf Ln Lx w'/\XF Lx (inI ((YN p.flows 0).map Prod.snd) 0 (fun _=>none)))
theorem Ga{l:List FL}{i:Nat}(h:i<l.length)(j:Nat):YN (l.drop i) j=(YV l[i].e (dg j)).filter isC++YN (l.drop (i+1)) (j+1):=by
 rw[ZO h];rfl
theorem uB{W0 w:World}(p:PG)(an Z M ao:OA)(cn ci O co:Nat)(hp:AP W0 p an Z M ao cn ci O co)(bf:JW p)(mc mi mf mn I m:Nat)(Lc Li Lf Ln:List (ByteArray × Value))(hM:Mkr W0 p an Z M ao cn ci O co mc mi mf mn I m Lc Li Lf Ln [] w) :
  Calls prog 82 #[.pointer (some ⟨m,0,none⟩)] w (Zfw W0 p an Z M ao cn ci O co mc mi mf mn I m Lc Li Lf Ln w):=by
 have bc:=hM.lt;have da:=hM.low.size;have cw:=bf.lens;have HM:=hid hM;obtain⟨⟨x0,x1,x2,x3,x4,x5,x6,x7,x8⟩,xf⟩:=Y1 (show w.1[m]?=_ from hM.box);have bv:m<w.1.size+1:=oq;have bw:m<w.1.size+1+1:=oq;have bx:m<w.1.size+1+1+1:=oq;have bz:m<w.1.size+1+1+1+1:=oq;clear hM;refine(Zu (n:=6)).1 ?_;refine callsIn_of_wp_marks func82 rfl trivial ?_ rfl;simp only[ntmps82,ZJ,Zp,Zx,Nat.reduceAdd,Nat.reduceSub,ZG,ZF,ZM,ZK,ZN,ZD];gi_wp2;obtain⟨W4,j⟩:=ez ((((w.alloc (.cells #[.pointer (some ⟨m,0,none⟩)] 167)).alloc (.cells #[.int .i64 0] 3)).alloc (.cells #[.int .i64 0] 38)).alloc (.cells #[.int .i64 0] 3));rw[j];have al:Below w.1.size w W4:=by rw[<-j];exact bq
 have cx:W4.1.size=w.1.size+4:=by rw[<-j];simp
 have au:=hid (show Ve W0 p an Z M ao cn ci O co mc mi mf mn I m Lc Li Lf Ln w W4.1.size [] [] W4 from ⟨⟨[],HM.o.grow al,fun _=>rfl⟩,Upon.of_below al,bc,oq,Zc _,
  by rw[<-j];exact(((Boxed.new _ _ _).alloc _).alloc _).alloc _,by rw[<-j];have:=((Boxed.new (w.alloc (.cells #[.pointer (some ⟨m,0,none⟩)] 167)) 3 (.int .i64 0)).alloc (.cells #[.int .i64 0] 38)).alloc (.cells #[.int .i64 0] 3);simpa using this,
  by rw[<-j];have:=(Boxed.new ((w.alloc (.cells #[.pointer (some ⟨m,0,none⟩)] 167)).alloc (.cells #[.int .i64 0] 3)) 38 (.int .i64 0)).alloc (.cells #[.int .i64 0] 3);simpa using this,
  by rw[<-j];have:=Boxed.new (((w.alloc (.cells #[.pointer (some ⟨m,0,none⟩)] 167)).alloc (.cells #[.int .i64 0] 3)).alloc (.cells #[.int .i64 0] 38)) 3 (.int .i64 0);simpa using this,by simp,⟨by simp,List.nodup_nil⟩,by simp⟩)
 clear j al x0 x1 x2 x3 x4 x5 x6 x7 x8 xf bv bw bx bz;refine wpIn_loop (fun a' wr=>∃(u5 u14 u15 u16 u17 u18 u34:Value)(i:Nat)(U:List Nat)(R:List (PE × ByteArray)),(i<=p.flows.length/\R++YN (p.flows.drop i) i=YN p.flows 0/\Ve W0 p an Z M ao cn ci O co mc mi mf mn I m Lc Li Lf Ln w wr.1.size U (R.map Prod.snd) wr) /\
  a'={ tmps:=#[.pointer (some ⟨m,0,none⟩),.pointer (some ⟨w.1.size,0,none⟩),.pointer (some ⟨w.1.size+1,0,none⟩),.pointer (some ⟨w.1.size+1+1,0,none⟩),.pointer (some ⟨w.1.size+1+1+1,0,none⟩),u5,undef,.pointer (some ⟨m,0,none⟩),.pointer (some ⟨m,0,none⟩),.pointer (some ⟨m,0,none⟩),.pointer (some ⟨m,2,none⟩),.slice M p.flows.length O,.int .i64 (p.flows.length:Int),.int .i64 (i:Int),u14,u15,u16,u17,u18,undef,undef,undef,undef,undef,undef,undef,undef,undef,undef,undef,undef,undef,undef,undef,u34],defers:=U.map mk })
  (fun a' _=>p.flows.length-(intOf (a'.tmps.getD 13 undef)).toNat) ⟨_,_,_,_,_,_,_,0,[],[],⟨Zk _,rfl,au.o⟩,rfl⟩ ?_
 rintro _ wr ⟨u5,u14,u15,u16,u17,u18,u34,i,U,R,⟨hi,A,hN⟩,rfl⟩;dsimp only;have HN:=hid hN;have c0:=hN.b0.cell;have cz:=Zm hN.size hN.bsize;clear hN au;by_cases be:i<p.flows.length
 .have cv:(i:Int)<(p.flows.length:Int):=oq;rw[Ga be] at A;have ap:=hid A;clear A;gi_wp2_with (refine⟨trivial,?_⟩;gi_at_call 142;refine(Zu.2 (Uq (w:=wr) m i)).mono ?_;rintro x w5 ⟨rfl,rfl⟩);obtain⟨H,G⟩:=ez ((wr.alloc (.cells #[.pointer (some ⟨m,0,none⟩)] 167)).alloc (.cells #[.int .i64 (i:Int)] 3));rw[G];have bt:Below wr.1.size wr H:=by rw[<-G];exact bq
  have cy:H.1.size=wr.1.size+2:=by rw[<-G];simp
  have br:Boxed H wr.1.size 167 (.pointer (some ⟨m,0,none⟩)):=by rw[<-G];exact(Boxed.new _ _ _).alloc _
  have bs:Boxed H (wr.1.size+1) 3 (.int .i64 (i:Int)):=by rw[<-G];have:=Boxed.new (wr.alloc (.cells #[.pointer (some ⟨m,0,none⟩)] 167)) 3 (.int .i64 (i:Int));simpa using this
  clear G;have ah:=hid ((HN.o.keep bt).more (B':=H.1.size) oq (Zc _));obtain⟨cl,az,_⟩:=ah.o.mkr;have ab:Below W0.1.size W0 H:=az.low;have bk:=hid az.box;have cb:=ab.size;have cg:=ah.o.lt;refine uI (w:=H) (encs:=fun x:VS W0=>#[.agg #[.int .i64 x.s.1.k,.string x.s.1.nm,.int .i64 x.s.1.n,.int .i64 x.s.1.d,.slice x.ad x.s.1.args.len x.cap,.int .i64 x.s.1.a,.string x.s.2]]) rfl oq (gf:=195) (lb:=#[.pointer (some ⟨wr.1.size,0,none⟩),.pointer (some ⟨wr.1.size+1,0,none⟩)]) rfl trivial (enters_of func195 kq rfl) (n₀:=W0.1.size) (Bk:=wr.1.size) cb
   (VC p an Z M ao cn ci O co hp bf mc mi mf mn I m wr.1.size (wr.1.size+1) i _ be H wr.1.size oq ab bk.o br bs) (fun _=>rfl)
   (fun pre X=>Ve W0 p an Z M ao cn ci O co mc mi mf mn I m Lc Li Lf Ln w H.1.size U ((R++pre.map (fun y:VS W0=>y.s)).map Prod.snd) X)
   (fun pre X=>ZdR W0 w H.1.size U X/\31<=R.length+pre.length)
   (fun s X Y row hs hg hr=>hs.own hg hr) (fun s X Y row hs hg hr=>⟨hs.1.own oq hg hr,hs.2⟩) (by simpa using ah.o)
   (fun x a' X=>∃Bx,H.1.size<=Bx/\X.1[Bx]?=some (.cells #[.int .i64 x.s.1.k,.string x.s.1.nm,.int .i64 x.s.1.n,.int .i64 x.s.1.d,.slice x.ad x.s.1.args.len x.cap,.int .i64 x.s.1.a,.string x.s.2] 250 (0,0)) /\
    a'={ tmps:=#[.pointer (some ⟨m,0,none⟩),.pointer (some ⟨w.1.size,0,none⟩),.pointer (some ⟨w.1.size+1,0,none⟩),.pointer (some ⟨w.1.size+1+1,0,none⟩),.pointer (some ⟨w.1.size+1+1+1,0,none⟩),.int .i64 (i:Int),.pointer (some ⟨Bx,0,none⟩),.pointer (some ⟨m,0,none⟩),.pointer (some ⟨m,0,none⟩),.pointer (some ⟨m,0,none⟩),.pointer (some ⟨m,2,none⟩),.slice M p.flows.length O,.int .i64 (p.flows.length:Int),.int .i64 (i:Int),.bool true,.int .i64 (i:Int),.pointer (some ⟨m,0,none⟩),.int .i64 (i:Int),.func (.func 195) #[] #[.pointer (some ⟨wr.1.size,0,none⟩),.pointer (some ⟨wr.1.size+1,0,none⟩)],.agg #[.int .i64 x.s.1.k,.string x.s.1.nm,.int .i64 x.s.1.n,.int .i64 x.s.1.d,.slice x.ad x.s.1.args.len x.cap,.int .i64 x.s.1.a,.string x.s.2],undef,undef,undef,undef,undef,undef,undef,undef,undef,undef,undef,undef,undef,undef,u34],defers:=[] })
   (fun x a' _ X Y row hs hg hrw=>by
    obtain⟨Bx,h1,V,h3⟩:=hs;refine⟨Bx,h1,(hg.block Bx (Zq.1 V).1 (fun e=>?_)).trans V,h3⟩;obtain⟨_,o,T,hc⟩:=hrw Bx e.symm;rw[V] at T;cases T;cases hc)
   ?assign ?body ?done ?stop
  case assign =>
   rintro l2 pre x X K f hK;gi_wp2;exact hK _ _ ((Zg _ _).alloc (Zc _) _) (f.keep (((Zg _ _).alloc (Zc _) _).mono f.bsize)) ⟨X.1.size,f.bsize,Yx X _,rfl⟩
  case body =>
   rintro l2 pre ⟨⟨⟨k2,bj,n2,d2,J,a2⟩,v⟩,aw,aa,ag⟩ a' X ce ⟨r,hr⟩ f ⟨Bx,cr,bi,rfl⟩ ch;simp only at bi;obtain⟨Lx,g,E⟩:=f.mkr;have ac:=f.few;obtain⟨ways,C⟩:=ez ((R++pre.map (fun y:VS W0=>y.s)).map Prod.snd);have bl:=hid (show ways.length=R.length+pre.length by rw[<-C];simp);rw[C] at f E ac;have b3:=f.b3;have c0:=f.b0.cell;have c1:=f.b1.cell;have f1:=f.b1.frozen;have c2:=f.b2.cell;have f2:=f.b2.frozen;obtain⟨⟨x0,x1,x2,x3,x4,x5,x6⟩,xf⟩:=Y5 bi;obtain⟨⟨z0,z1,z2,z3,z4,z5,z6,z7,z8⟩,zf⟩:=Y1 (show X.1[m]?=_ from g.box);have ct:=f.bsize;have ck:=g.ord;by_cases ax:ways.length=30
   .rw[ax] at b3;have c3:=b3.cell;have z:=hid f;have ba:=f.b1;have bb:=f.b2;clear f g E b3 hr;gi_wp2;have F:∀k,k≠w.1.size+1->k≠w.1.size+1+1->((X.setCell ⟨w.1.size+1,0,none⟩ (.int .i64 a2)).setCell ⟨w.1.size+1+1,0,none⟩ (.int .i64 8)).1[k]?=X.1[k]?:=fun k h1 V=>by
     rw[Zr _ _ _ _ (fun e=>V e),Zr _ _ _ _ (fun e=>h1 e)]
    have am:∀B,B<=w.1.size+1->Below B X ((X.setCell ⟨w.1.size+1,0,none⟩ (.int .i64 a2)).setCell ⟨w.1.size+1+1,0,none⟩ (.int .i64 8)):=fun B hB=>((Zg _ _).setCell (p:=⟨w.1.size+1,0,none⟩) hB _).setCell (p:=⟨w.1.size+1+1,0,none⟩) (by show B<=w.1.size+1+1;omega) _
    refine⟨⟨(am 0 oq).size,fun k o hk T hc=>(F k oq oq).trans T⟩,rfl,⟨?_,oq,Zm z.o.bsize (am 0 oq).size,⟨a2,?_⟩,?_,?_,z.o.under⟩,by rw[Zy,Zp,Zx];have:=bl.o;omega⟩
    .obtain⟨Lx,g,_⟩:=z.o.mkr;exact g.low.trans (am _ oq)
    .exact(ba.set (.int .i64 a2)).other oq _
    .exact(bb.other oq _).set _
    exact(z.o.marks.set _ _).set _ _
   have cj:((ways.length:Int) == 30)=false:=ZZ.2 oq;have ay:ways.length<30:=oq;have c3:=b3.cell;have z:=hid f;have ar:=hid g;have aq:=hid E;clear f g E b3 hr ax ac;gi_wp2;refine KV 7 kq kq ?hlet kq ?_
   case hlet=>rintro⟨_,_,h⟩;exact h
   simp only[List.take_succ_cons,List.take_zero,List.drop_succ_cons,List.drop_zero]
   repeat still_step
   try refine wpStill_nil ?_
   change wpList _ _ _ _ _ X.drew
   go_wp2_with (at_mapUpdate;refine XE eJ _ rfl _ _ _ rfl I Lx v (.int .i64 (ways.length:Int)) rfl rfl rfl (show YT X.drew _ _ from ar.o.x) ?_;intro arr clock ca);have L:Upon I X (World.putM X.drew I (.map arr clock)):=YR (Upon.refl _ _).drew _;have av:=hid (z.o.step ar.o aq.o v ca ay);obtain⟨W2,bu⟩:=ez (World.putM X.drew I (.map arr clock));rw[bu] at L av ⊢;have b3:Boxed W2 (w.1.size+1+1+1) 3 (.int .i64 (ways.length:Int)):=(L.block _ oq oq).trans z.o.b3;have cm:=b3.cell;have cp:=b3.frozen;have cd:IntKind.i64.wrap ((ways.length:Int)+1)=(ways.length:Int)+1:=ZL _ oq;gi_wp2;have F:∀k,k<X.1.size->k≠I->k≠w.1.size+1+1+1->(W2.setCell ⟨w.1.size+1+1+1,0,none⟩ (.int .i64 ((ways.length:Int)+1))).1[k]?=X.1[k]?:=fun k h1 V h3=>by
    rw[Zr _ _ _ _ (fun e=>h3 e)];exact L.block k h1 V
   have bh:X.1.size<=(W2.setCell ⟨w.1.size+1+1+1,0,none⟩ (.int .i64 ((ways.length:Int)+1))).1.size:=Zm L.size ((Zg 0 W2).setCell (p:=⟨w.1.size+1+1+1,0,none⟩) (Zk _) _).size;refine⟨⟨bh,fun k o hk T hc=>(F k (Zb T) oq oq).trans T⟩,⟨?_,fun k o hk T hc=>(F k (Zb T) oq oq).trans T⟩,?_⟩
   .exact(L.below oq oq).setCell (p:=⟨w.1.size+1+1+1,0,none⟩) (by show W0.1.size<=w.1.size+1+1+1;omega) _
   have e:((R++(pre++[(⟨(⟨k2,bj,n2,d2,J,a2⟩,v),aw,aa,ag⟩:VS W0)]).map (fun y:VS W0=>y.s)).map Prod.snd)=ways++[v]:=by rw[<-C];simp
   show Ve W0 p an Z M ao cn ci O co mc mi mf mn I m Lc Li Lf Ln w H.1.size U ((R++(pre++[(⟨(⟨k2,bj,n2,d2,J,a2⟩,v),aw,aa,ag⟩:VS W0)]).map (fun y:VS W0=>y.s)).map Prod.snd) _;rw[e];exact av.o
  case done =>
   rintro D zs X hD cc f hK;gi_wp2;rw[show((i:Int)+1)=((i+1:Nat):Int) by omega];refine⟨⟨_,_,_,_,_,_,_,i+1,D::U,R++zs.map (·.s),⟨oq,?_,f.mark hD hK⟩,rfl⟩,by simp[intOf];omega⟩;rw[cc,List.append_assoc];exact ap.o
  rintro D pre X hD bg ⟨hX,cq⟩ hK;obtain⟨a,bA⟩:=hX.b1;have bE:=hX.b2;have bd:=hX.low;gi_wp2;refine Ql (n₀:=w.1.size) (D::U) _ ⟨fun D' hD'=>?_,List.nodup_cons.2 ⟨fun hm=>?_,hX.marks.2⟩⟩ (fun w' hk=>?_)
  .rcases ZS.1 hD' with rfl|hm
   .exact⟨oq,hK⟩
   exact hX.marks.1 D' hm
  .have:=hX.under D hm;omega
  have bn:=(show Boxed w' _ _ _ from hk.same _ _ bA rfl).cell;have bp:=(show Boxed w' _ _ _ from hk.same _ _ bE rfl).cell;refine⟨.tuple #[.int .i64 a,.int .i64 8],?_,?_⟩
  .simp only[results,results82];go_simp
  refine .inl ⟨a,rfl,?_,bd.trans (hk.below.mono oq)⟩;obtain⟨q,hq⟩:=bg;have h1:=Z4 List.length ap.o;have V:=Z4 List.length hq;simp only[Zy,Zo] at h1 V;omega
 have ae:i=p.flows.length:=oq;have cu:¬(i:Int)<(p.flows.length:Int):=oq;have aj:=HN.o.b1;have ak:=HN.o.b2;have cA:=aj.cell;have fA:=aj.frozen;have cE:=ak.cell;have fE:=ak.frozen;gi_wp2;refine Ql U _ ((HN.o.marks.set _ _).set _ _) (fun w' hk=>?_);have bm:=hk.same _ _ ((aj.set (.int .i64 0)).other (show w.1.size+1≠w.1.size+1+1 by omega) (.int .i64 0)) rfl;have bo:=hk.same _ _ ((ak.other (show w.1.size+1+1≠w.1.size+1 by omega) (.int .i64 0)).set (.int .i64 0)) rfl;have bn:=(show Boxed w' _ _ _ from bm).cell;have bp:=(show Boxed w' _ _ _ from bo).cell;refine⟨.tuple #[.int .i64 0,.int .i64 0],?_,.inr ⟨rfl,?_,?_,?_⟩⟩
 .simp only[results,results82];go_simp
 .rw[ae,Yq,YN,List.append_nil] at A;have:=HN.o.few;rw[<-A];simpa using this
 .exact(((HN.o.up.setCell (p:=⟨w.1.size+1,0,none⟩) (Or.inr (by show w.1.size<=w.1.size+1;omega)) _)).setCell (p:=⟨w.1.size+1+1,0,none⟩) (Or.inr (by show w.1.size<=w.1.size+1+1;omega)) _).then_below hk.below (Zc _)
 obtain⟨Lx,g,f⟩:=HN.o.mkr;rw[ae,Yq,YN,List.append_nil] at A;rw[A] at f;exact⟨Lx,g.keep (B:=w.1.size) bc ((((Zg _ _).setCell (p:=⟨w.1.size+1,0,none⟩) (by show w.1.size<=w.1.size+1;omega) _).setCell (p:=⟨w.1.size+1+1,0,none⟩) (by show w.1.size<=w.1.size+1+1;omega) _).trans hk.below),f⟩
