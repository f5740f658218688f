/- Parts of the proof. -/
import Derived.Test.YtdgifkjaflfdeaaGreatDoorV46
set_option linter.all false
set_option maxRecDepth 100000
set_option maxHeartbeats 16000000
namespace Go.Proofs.YtdgifkjaflfdeaaGreatDoor.syn
open Tryz
open Go.RowKit Go.Shelf Go.Sort
def SdR(w:World)(b o:Nat)(x:SdD):Prop:=w.cell? ⟨b,o,none⟩=some (.int .i64 x.t)∧w.cell? ⟨b,o+1,none⟩=some (.int .i64 x.n)∧w.cell? ⟨b,o+2,none⟩=some (.int .i64 x.d)∧w.cell? ⟨b,o+3,none⟩=some (.int .i64 x.v)
theorem Zaf{f:List SdD}{t:Nat}(h:t<f.length*4):(f.flatMap encS)[t]?=some (encS f.toArray[t/4]!)[t%4]!:=by
 induction f generalizing t with
 | nil=>simp at h
 | cons x f ih =>
  rw[List.flatMap_cons];by_cases ht:t<4
  ·rw[List.getElem?_append_left (show t<(encS x).length from ht)];have g:t/4=0:=oq;have j:t%4=t:=oq;rw[g,j];have:(x::f).toArray[0]! = x:=rfl;rw[this,getElem!_pos _ t (show t<(encS x).length from ht),Ze]
  rw[List.getElem?_append_right (show(encS x).length≤t by show 4≤t;omega)];have q:(encS x).length=4:=rfl;rw[q,ih (t:=t-4) (by simp at h;omega)];have g:t/4=(t-4)/4+1:=oq;have j:(t-4)%4=t%4:=oq;rw[g,j];have m:(t-4)/4<f.length:=by simp at h;omega
  have:(x::f).toArray[(t-4)/4+1]! = f.toArray[(t-4)/4]!:=by
   rw[getElem!_pos _ _ (by simp;exact m),getElem!_pos _ _ (by simpa using m)];simp
  rw[this]
theorem Zft{W:World}{base g c:Nat}{j:List SdD}(h:W.ownsRow base 97 4 (.slice (some ⟨g,0,none⟩) j.length c) j.length (j.flatMap encS)):HoldsK encS 4 W g 0 j.toArray∧g<W.heap.size:=by
 rcases h.2 with ⟨e,_⟩|⟨g',cap,cur,e,hb,hg,hnc,hcm,hcs,htk⟩
 ·cases e
 injection e with e1 e2 e3
 injection e1 with e1
 injection e1 with e1
 subst e1;refine⟨fun t ht=>?_,Zb hg⟩;have f:t<j.length*4:=by simpa using ht
 rw[get_flatK _ _ _ _ (by simpa using f),ZC];refine⟨?_,by simp[World.frozen?,hg]⟩;rw[Z5 W g t cur _ (0,0) hg,←Array.getElem?_toList];have m:=Zaf f;rw[←htk,Ym f] at m;exact m
theorem Zeq{W:World}{g:Nat}{d:Array SdD}(h:HoldsK encS 4 W g 0 d)(x:g<W.heap.size):Row SdR 4 W d.toList (some ⟨g,0,none⟩):=by
 refine .inr ⟨g,0,rfl,x,fun i hi=>?_⟩;have f:i<d.size:=by simpa using hi
 have e:d[i]! = d.toList[i]:=by rw[getElem!_pos d i f,Array.getElem_toList]
 have j:=(h.cell f (c:=0) oq).1;have m:=(h.cell f (c:=1) oq).1;have q:=(h.cell f (c:=2) oq).1;have v:=(h.cell f (c:=3) oq).1;rw[e] at j m q v;exact⟨j,m,q,v⟩
theorem Zc0{w W':World}{f off:Nat}{d:Array SdD}(h:SWK encS 4 w f off d W'):But (fun b=>b=f) w W':=by
 obtain⟨m,os,rfl⟩:=h;refine⟨rfl,rfl,rfl,?_,fun b hb hne=>?_⟩
 ·simp[sortWorldK,putRowK,putRow,mapBlock,grow,ahead]
 unfold sortWorldK;rw[heap_grow_old _ _ (by simpa [putRowK,putRow,mapBlock,ahead] using hb)];simp only[putRowK,putRow,mapBlock,ahead,Array.getElem?_modify];rw[ZZ (fun e=>hne e.symm)];rfl
theorem jS{W:World}{base N cj:Nat}{ja:Option Addr}(q:List SdD)(E:q.length=N)(F:N≤1000000000)(v:base≤W.heap.size)(j:W.ownsRow base 97 4 (.slice ja N cj) N (q.flatMap encS)) :
  Calls prog 35 #[.slice ja N cj,.func (.func 36) #[] #[]] W fun e w'=>e=.returned (.tuple #[])∧(∃l:List SdD,l.length=N∧(l.Perm q∧l.Pairwise (fun x y=>¬ltS y x))∧Row SdR 4 w' l ja)∧Below base W w':=by
 subst E;rcases j.2 with ⟨e,hn⟩|⟨g,cap,cur,e,hb,hg,_⟩
 ·rw[hn];refine(xm ja cj W).mono ?_;rintro y w' ⟨rfl,rfl⟩;have hd:q=[]:=Yb hn;subst hd;exact⟨rfl,⟨[],rfl,⟨List.Perm.refl _,List.Pairwise.nil⟩,.inl rfl⟩,Zg _ _⟩
 injection e with e1 e2 e3
 subst e1;obtain⟨C,z⟩:=Zft j;have h:=xn g 0 cj q.toArray W C z (by simp;omega);rw[ZH] at h;refine h.mono ?_;rintro y w' ⟨rfl,A,⟨D,G⟩,m⟩;have f:A.toList.length=q.length:=by have:=D.length_eq;simpa using this
 refine⟨rfl,⟨A.toList,f,⟨by simpa using D,G⟩,Zeq (m.holds z C (by simpa using f)) (m.lt z)⟩,(Zc0 m).below v (fun k hk=>by rw[hk];exact hb)⟩
def vi(f:FD)(nds:List NE)(inl:List (List Int))(u:Int)(x:Ending)(w':World):Prop :=
 (Ji f u=0∧∃l ad cap,Vu f inl (Jt f nds inl u) u l∧x=.returned (.tuple #[.slice ad l.length cap,.int .i64 0])∧Row SdR 4 w' l ad)∨(Ji f u≠0∧x=.returned (.tuple #[.slice none 0 0,.int .i64 (Ji f u)]))
theorem qb{f:FD}{u:Int}(h:Ji f u=0):Y5 f=true∧(0≤u∧u≤20000)∧∃l,ofP f=some l:=by
 unfold Ji at h;split at h
 ·rename_i hc
  cases ho:ofP f with
  | none=>rw[ho] at h;cases h
  | some l=>exact⟨hc.1,hc.2,l,rfl⟩
 cases h
theorem Zb6(p q u:Int):0≤Qp p q u:=by
 unfold Qp;split
 ·rename_i h
  have f:=(EQ h.1);rw[Int.tdiv_eq_ediv_of_nonneg oq];have:=Int.ediv_nonneg (show 0≤u-1-q by omega) (show 0≤p by omega);omega
 exact Int.le_refl _
theorem Zew{f:FD}{a:AD}{q m:Int}(h:Xw f a q m=true):0≤a.src∧a.src<((f.ins.length+f.tasks.length:Nat):Int):=by
 have g:=(Vx h).2.1;unfold QD at g;by_cases j:a.src<0
 ·rw[Z0 j] at g;cases g
 rw[ZZ j] at g;by_cases v:a.src<(f.ins.length:Int)
 ·exact⟨oq,oq⟩
 rw[ZZ v] at g;rw[Option.isSome_map] at g;obtain⟨d,hd⟩:=Option.isSome_iff_exists.1 g;have:=(Zz.1 hd).1;exact⟨oq,oq⟩
theorem uO(ni:Nat)(inl vals:List (List Int))(i:Nat)(x:LD)(n:Nat):QE ni inl vals i x (n+1)=QE ni inl vals i x n++[Jp ni inl vals i x n]:=by unfold QE;rw[Yg,ZT];rfl
theorem ZaL{f:FD}{inl vals:List (List Int)}{u:Int}{k:Nat}{x:LD}(g:f.tells[k]?=some x):XH f inl vals u (k+1)=XH f inl vals u k++QE f.ins.length inl vals k x (yI x u):=by rw[XH,g]
theorem G6{f:FD}(g:RgS f){u:Int}(j:u≤20000){i:Nat}{x:LD}(m:f.tells[i]?=some x):yI x u≤20001:=by
 apply Yf;intro h;have:=JB g j m (n:=20001) oq;omega
theorem ZaT{f:FD}(g:RgS f){inl vals:List (List Int)}{u:Int}(j:u≤20000)(k:Nat):(match f.tells[k]? with|none=>[]|some x=>QE f.ins.length inl vals k x (yI x u)).length≤20001:=by
 split
 ·simp
 rename_i x hx
 rw[QE,Zo,List.length_range];exact G6 g j hx
theorem ET{f:FD}(hR:RgS f){inl vals:List (List Int)}{u:Int}(hu:u≤20000):∀k,(XH f inl vals u k).length≤k*20001
 | 0=>Zk _
 | k+1=>by
  have h1:=ET hR (inl:=inl) (vals:=vals) hu k;have h2:=ZaT hR (inl:=inl) (vals:=vals) hu k;rw[XH,Zw];refine Zm (Nat.add_le_add h1 h2) ?_;omega
structure SyW (W2 W:World) (v:Value) (d:List SdD):Prop where
 low:Below W2.heap.size W2 W
 own:W.ownsRow W2.heap.size 97 4 v d.length (d.flatMap encS)
theorem SyW.below{W2 W W':World}{v:Value}{d:List SdD}(h:SyW W2 W v d)(hb:Below W.heap.size W W'):SyW W2 W' v d:=⟨h.low.trans (hb.mono h.low.size),own_below h.own hb⟩
def S5(b:Nat)(p q s:Int)(sl:Value)(dl:Int)(w':World):Prop:=w'.cell? ⟨b,0,none⟩=some (.int .i64 p)∧w'.cell? ⟨b,1,none⟩=some (.int .i64 q)∧w'.cell? ⟨b,2,none⟩=some (.int .i64 s)∧w'.cell? ⟨b,3,none⟩=some sl∧w'.cell? ⟨b,4,none⟩=some (.int .i64 dl)
theorem V6{b:Nat}{p q s f:Int}{g:Value}{W W':World}(h:S5 b p q s g f W)(hb:W'.heap[b]?=W.heap[b]?):S5 b p q s g f W':=by
 have k:=fun o=>Zn (w:=W) (w':=W') (a:=⟨b,o,none⟩) hb
 exact⟨(k _).trans h.1,(k _).trans h.2.1,(k _).trans h.2.2.1,(k _).trans h.2.2.2.1,(k _).trans h.2.2.2.2⟩
theorem Zb3:(prog.info? 97).map (fun i=>(i.zero,i.size,i.bytes))=some (some (.agg #[.int .i64 0,.int .i64 0,.int .i64 0,.int .i64 0]),4,32):=by kernel_rfl
theorem ZdJ{w:World}{b:Nat}{f g j m q:Value}{t:TypeId}(h:w.heap[b]?=some (.cells #[f,g,j,m,q] t (0,0))) :
  w.cell? ⟨b,0,none⟩=some f∧w.cell? ⟨b,1,none⟩=some g∧w.cell? ⟨b,2,none⟩=some j∧w.cell? ⟨b,3,none⟩=some m∧w.cell? ⟨b,4,none⟩=some q:=by
 refine⟨?_,?_,?_,?_,?_⟩
 all_goals simp[World.cell?,h]
theorem ZcN{w:World}(f:FD)(ai an aT al:Option Addr)(ci cn ct cl:Nat)(hf:FAP w f ai an aT al)(nds:List NE)(hn:xJ w f an nds)(inl:List (List Int))(ar:Option Addr)(bn:Nat)(av:Qo w ar inl){m':Nat}(bo:Bv m' inl)(u:Int) :
  Calls prog 11 #[fv f ai an aT al ci cn ct cl,.slice ar inl.length bn,.int .i64 u] w fun x w'=>vi f nds inl u x w'∧Below w.heap.size w w':=by
 have X:=hid (fun W (hb:Below w.heap.size w W)=>K6 (w:=W) f ai an aT al ci cn ct cl (hf.below hb) nds (hn.below hb) inl ar bn (av.keep hb.block) bo u);have HF:=hid hf;have co:=hid av;clear hf hn av bo;unfold fv at *;obtain⟨W1,G⟩:=ez (w.alloc (.cells #[.slice ai f.ins.length ci,.slice an f.nods.length cn,.slice aT f.tasks.length ct,.slice al f.tells.length cl] 35));have hB:Below w.heap.size w W1:=by rw[←G];exact bq
 have ab:W1.heap[w.heap.size]?=some (.cells #[.slice ai f.ins.length ci,.slice an f.nods.length cn,.slice aT f.tasks.length ct,.slice al f.tells.length cl] 35 (0,0)):=by rw[←G];exact Yw w _
 obtain⟨⟨x0,x1,x2,x3⟩,xf⟩:=Yx ab;have HQ:=hid ab;have HB:=hid hB;have df:w.heap.size<W1.heap.size:=Zb ab;clear hB ab;obtain⟨er,z⟩:=ez (Ji f u);by_cases he:er=0
 ·subst he;have E:=hid (fun W (hb:Below w.heap.size w W)=>(X.out W hb).mono (fun x w' h=>Zh (gN h.1 z) h.2));obtain⟨bx,hu,lo,di⟩:=qb z;have hR:=JU bx;have aq:=hid hR;obtain⟨v,ac⟩:=ez (Jt f nds inl u);have cb:v.length=f.tasks.length:=by rw[←ac];exact ye _ _ _ _
  rw[ac] at E;have bi:=hid (Zh z ac);have bk:=hid cb;have bd:=hid (fun k=>ET hR (inl:=inl) (vals:=v) hu.2 k);clear bx di hR ac z X cb;go_enter func11,ntmps11;go_upto_region 1 with fail
  first|rw[G]|skip
  clear G;go_upto_region 5 with (go_at_call 32;refine(E.out _ HB.out).mono ?_;rintro x w2 ⟨⟨wI,W0,mb,vb,dx,dy,dw,dz,ea,eb,dq,ec,vs,rfl,am,ca,dd⟩,hb2⟩;have cq:=hid (ca.mnr (co.out.keep ((HB.out.trans (am.mono HB.out.size)).block)));have HB2:=hid (HB.out.trans (hb2.mono HB.out.size));have el:=hb2.size;obtain⟨⟨y0,y1,y2,y3⟩,yf⟩:=Yx ((hb2.block _ df).trans HQ.out);clear hb2 ca am dd)
  clear x0 x1 x2 x3 xf E HQ;obtain⟨L,rfl⟩:=ey w2;have bh:=hid (HF.out.below HB2.out).tells;have dg:=HF.out.lens;have db:=hid HF.out.tops;have em:w.heap.size<L.heap.size:=oq;have cm:=hid (fun(W:World) (hb:Below L.heap.size L W)=>cq.out.keep hb.block);go_wp2;go_loopw [10,27] (fun s10 s27 wr=>Hid (∃i:Nat,s27=.int .i64 (i:Int)∧i≤f.tells.length∧SyW L wr s10 (XH f inl v u i))) (fun _ s27 _=>f.tells.length-(intOf s27).toNat)
  case atStart=>exact⟨0,rfl,Zk _,⟨Zg _ _,Yd _ _ _ _⟩⟩
  obtain⟨q,rfl⟩:=ey wr;obtain⟨i,rfl,hi,j⟩:=hrel.out;clear hrel;obtain⟨ja,jc,rfl⟩:=YG j.own;have F:=hid j;have dn:=j.low.size;by_cases O:i<f.tells.length
  ·have i0:(0:Int)≤(i:Int):=oq;have i1:(i:Int)<(f.tells.length:Int):=oq;obtain⟨x,hx⟩:∃x,f.tells[i]?=some x:=⟨_,Ze O⟩;have cc:f.tells[i]=x:=(Zz.1 hx).2;obtain⟨bl,ol,rfl,dc,bp⟩:=bh.out.resolve_left (fun e=>by rw[e] at O;simp at O);obtain⟨u0,u1,u2,u4,ta,tc,u3,R⟩:=bp i O;rw[cc] at u0 u1 u2 u3 u4 R;have H:=fun o=>j.low.cell (p:=⟨bl,o,none⟩) dc
   have t0:=(H _).trans u0;have t1:=(H _).trans u1;have t2:=(H _).trans u2;have t3:=(H _).trans u3;have t4:=(H _).trans u4;obtain⟨hd,af,hc⟩:=aq.out.tel i x hx;have dm:=Zew af;have ei:=(db.out x (Z8 hx)).1;have de:=G6 aq.out hu.2 hx;have dj:=Zb6 x.per x.ph (u-x.dl+1);obtain⟨N,hN⟩:=ez (yI x u);have bs:Qp x.per x.ph (u-x.dl+1)=(N:Int):=by rw[←hN];unfold yI;omega
   obtain⟨U,ax⟩:∃U:Nat,x.arg.src=(U:Int):=⟨x.arg.src.toNat,oq⟩;rw[ax] at t2;have ej:U<f.ins.length+f.tasks.length:=oq;have ed:N≤20001:=oq;have HJ:=hid (fun(W:World)=>Ej x.per x.ph (u-x.dl+1) W);rw[bs] at HJ;have cw:=hid (xi R);have cg:=hid (fun(W:World) (n:Nat) (hn:n<N)=>Zh (JB aq.out hu.2 hx (n:=n) oq) (UU x.per x.ph (n:Int) W));have cf:=hid (fun(n:Nat) (hn:n≤100000)=>XZ hc (n:=n) hn);have e1:IntKind.i64.wrap (u-x.dl)=u-x.dl:=ZJ _ oq;have e2:IntKind.i64.wrap (u-x.dl+1)=u-x.dl+1:=ZJ _ oq;have HX:=hid (Zh hx (Zh hN ax));have dr:=bd.out i;have ek:=Nat.mul_le_mul_right 20001 (show i≤1000 by omega);clear R af dj bs bp j hN ax hx cc bh u0 u1 u2 u3 u4 H dm de;go_upto_region 8 with fail
   obtain⟨W4,Y⟩:=ez (q.alloc (.cells #[.int .i64 x.per,.int .i64 x.ph,.int .i64 (U:Int),.slice ta x.arg.ops.length tc,.int .i64 x.dl] 94));rw[Y];have hb4:Below q.heap.size q W4:=by rw[←Y];exact(Zg _ _).alloc (Zc _) _
   have aw:W4.heap[q.heap.size]?=some (.cells #[.int .i64 x.per,.int .i64 x.ph,.int .i64 (U:Int),.slice ta x.arg.ops.length tc,.int .i64 x.dl] 94 (0,0)):=by rw[←Y];exact Yw q _
   have ao:=Zb aw;obtain⟨z0,z1,z2,z3,z4⟩:=ZdJ aw;have HB4:=hid hb4;have bg:=hid (show S5 q.heap.size x.per x.ph (U:Int) (.slice ta x.arg.ops.length tc) x.dl W4 from ⟨z0,z1,z2,z3,z4⟩);clear t0 t1 t2 t3 t4 Y hb4 aw;go_upto_region 9 with (go_at_call 15;refine(HJ.out _).mono ?_;rintro y w5 ⟨rfl,hb5⟩;have HB5:=hid (HB4.out.trans (hb5.mono HB4.out.size));have cp:=hid (V6 bg.out (hb5.block _ ao));have en:=hb5.size;clear hb5)
   clear z0 z1 z2 z3 z4 bg HB4;obtain⟨W5,rfl⟩:=ey w5;have cz:=hid (F.out.below HB5.out);have cu:=hid (show ∀k,(Value.slice ja (XH f inl v u i).length jc).ownBlock=some k→k≠q.heap.size from fun k hk e=>by
    rcases F.out.own.2 with ⟨h1,_⟩|⟨g,cap,cur,h1,_,hg,_⟩
    ·injection h1 with h1;subst h1;cases hk
    injection h1 with h1
    subst h1;injection hk with hk
    have h3:g<q.heap.size:=Zb hg;have h4:g=k:=hk;omega)
   clear F;go_wp2;go_loopw [10,40] (fun s10 s40 wr=>Hid (∃n:Nat,s40=.int .i64 (n:Int)∧n≤N∧SyW L wr s10 (XH f inl v u i++QE f.ins.length inl v i x n)∧(∀k,s10.ownBlock=some k→k≠q.heap.size)∧q.heap.size<wr.heap.size∧S5 q.heap.size x.per x.ph (U:Int) (.slice ta x.arg.ops.length tc) x.dl wr)) (fun _ s40 _=>N-(intOf s40).toNat)
   case atStart=>exact⟨0,rfl,Zk _,by simpa [QE] using cz.out,cu.out,oq,cp.out⟩
   obtain⟨V,rfl⟩:=ey wr;obtain⟨n,rfl,eh,j,aa,bu,bt⟩:=hrel.out;clear hrel;obtain⟨a,c,rfl⟩:=YG j.own;have F:=hid j;have ap:=hid bt;by_cases bv:n<N
   ·have n1:(n:Int)<(N:Int):=oq;have cd:=j.low.size;obtain⟨eg,ce⟩:=cg.out V n bv;have br:=cf.out n oq;obtain⟨ln,Z⟩:=ez ((XH f inl v u i++QE f.ins.length inl v i x n).length);have ef:ln≤30000000:=by rw[←Z,Zw];simp[QE];omega
    obtain⟨dt,au⟩:=ez (JC x.per x.ph (n:Int));obtain⟨vv,ay⟩:=ez (Jw f.ins.length inl v U x.arg.ops (n:Int));have bb:=hid (fun(W:World)=>UU x.per x.ph (n:Int) W);rw[au] at bb br;have bj:=hid (fun(W:World) (hb:Below L.heap.size L W)=>qN (cm.out W hb) (by have:=bk.out;omega) U (by have:=bk.out;omega) x.arg.ops ta tc oq (cw.out.below hb (Zc _)) (n:Int));rw[ay] at bj;have dk:0≤(n:Int)*x.per:=Int.mul_nonneg oq oq;have ee:0≤dt∧dt≤20000:=oq;have ch:=hid (show Jp f.ins.length inl v i x n=⟨(i:Int),(n:Int),dt+x.dl,vv⟩ by unfold Jp;rw[HX.out.2.2,ZP,au,ay]);have e3:IntKind.i64.wrap (dt+x.dl)=dt+x.dl:=ZJ _ oq;have bc:=hid Z;rw[Z] at j aa ⊢;have I:=hid aa;clear aa;have bf:=hid (show V.ownsRow L.heap.size 97 4 (.slice a ln c) ln ((XH f inl v u i++QE f.ins.length inl v i x n).flatMap encS) from(by have h:=j.own;rw[bc.out] at h;exact h));have be:=hid j.low;obtain⟨dp,ag,ah,aj,ak⟩:=info_parts Zb3;have HI:=hid (Zh ag (Zh ah (Zh aj ak)));clear ag ah aj ak j br Z au ay dk ce bt;go_upto_region 11 with fail
    have KA:=hid (show S5 q.heap.size x.per x.ph (U:Int) (.slice ta x.arg.ops.length tc) x.dl V.drew from V6 ap.out rfl);have az:=hid (show Below V.heap.size V V.drew from(Zg _ _).drew);refine ZN (S:=S5 q.heap.size x.per x.ph (U:Int) (.slice ta x.arg.ops.length tc) x.dl) kq (by first|with_reducible exact KA.out|with_reducible exact KB.out|with_reducible exact A.out|with_reducible exact J.out _|with_reducible exact KC.out) (fun hHeld=>?_);refine tk 0 hHeld ?_;refine tk 1 hHeld ?_;refine tk 2 hHeld ?_;refine tk 3 hHeld ?_;refine tk 4 hHeld ?_;refine tk 5 hHeld ?_;refine tk 7 hHeld ?_;refine tk 8 hHeld ?_;refine tk 10 hHeld ?_;refine tk 11 hHeld ?_;refine tk 12 hHeld ?_;refine tk 13 hHeld ?_;refine ry 6 fun K hK=>?_
    (go_simp;go_at_call 33;refine(bb.out _).mono ?_;rintro y w5 ⟨rfl,M⟩;have m:Below V.heap.size V w5:=az.out.trans (M.mono az.out.size);have HB5:=hid m;have du:=m.size;have KB:=hid (V6 ap.out (m.block q.heap.size bu));clear M m)
    refine hK.out _ _ (fun hHeld=>?_) (by first|with_reducible exact KA.out|with_reducible exact KB.out|with_reducible exact A.out|with_reducible exact J.out _|with_reducible exact KC.out);clear hK K;refine tk 9 hHeld ?_;refine ry 14 fun K hK=>?_
    (go_simp;go_at_call 34;refine(bj.out _ (be.out.trans (HB5.out.mono cd))).mono ?_;rintro y w6 ⟨rfl,M⟩;have m:Below V.heap.size V w6:=HB5.out.trans (M.mono HB5.out.size);have HB6:=hid m;have dv:=m.size;have A:=hid (V6 ap.out (m.block q.heap.size bu));have J:=hid (fun(o:Obj)=>V6 A.out (Za w6 o q.heap.size oq));clear M m)
    refine hK.out _ _ (fun hHeld=>?_) (by first|with_reducible exact KA.out|with_reducible exact KB.out|with_reducible exact A.out|with_reducible exact J.out _|with_reducible exact KC.out);clear hK K;refine tk 15 hHeld ?_;refine ry 16 fun K hK=>?_
    go_simp;refine hK.out _ _ (fun hHeld=>?_) (by first|with_reducible exact KA.out|with_reducible exact KB.out|with_reducible exact A.out|with_reducible exact J.out _|with_reducible exact KC.out);clear hK K;refine ry 17 fun K hK=>?_
    (refine step_append_lies _ (by rfl) _ _ _ (by rfl) L.heap.size 97 dp _ 4 32 underlying41 HI.out.1 HI.out.2.1 HI.out.2.2.1 HI.out.2.2.2 rfl oq (.slice a ln c) ln ((XH f inl v u i++QE f.ins.length inl v i x n).flatMap encS) (by rfl) (own_below bf.out (HB6.out.alloc HB6.out.size _)) ⟨w6.heap.size,0,none⟩ 1 1 [.int .i64 (i:Int),.int .i64 (n:Int),.int .i64 (dt+x.dl),.int .i64 vv] (by rfl) (by rfl) (World.news_of_block (Zy _ _)) (by simp[Value.oneCell']) oq (by unfold maxLen;omega) oq (by simp;omega) (w6.heap.size+1) (by simp) ?_;intro gg bm w4 T D ae ao;have C:But (fun k=>(Value.slice a ln c).ownBlock=some k) w6 w4:=(But.of_below ((Zg _ _).alloc (Zc _) _)).then (But.of_grown D) (fun i _ e=>e);have KC:=hid (V6 A.out (C.block q.heap.size oq (fun e=>I.out _ e rfl)));have cv:=hid T;have ba:=hid C;have ds:=C.size;have ck:=hid ae;clear T D ae C)
    refine hK.out _ _ (fun hHeld=>?_) (by first|with_reducible exact KA.out|with_reducible exact KB.out|with_reducible exact A.out|with_reducible exact J.out _|with_reducible exact KC.out);clear hK K;refine tk 18 hHeld ?_;refine Zx kq ?_ _;have da:=hid (show SyW L w4 (.slice (some ⟨gg,0,none⟩) (ln+1) bm) (XH f inl v u i++QE f.ins.length inl v i x (n+1)) from ⟨(be.out.trans (HB6.out.mono cd)).trans (ba.out.below oq (fun k hk=>YW bf.out k hk)),by rw[uO,←List.append_assoc,ch.out,Zw,List.flatMap_append,bc.out];exact cv.out⟩);go_wp2_with fail;exact⟨hid ⟨n+1,by go_num,bv,da.out,fun k hk e=>(by have e2:gg=k:=(by injection hk);subst e2;rcases ck.out with h|h;(first|exact I.out _ h e|omega);(first|exact I.out _ h e|omega)),oq,KC.out⟩,by simp[intOf];omega⟩
   obtain rfl:n=N:=oq;have n1:¬(n:Int)<(n:Int):=oq;go_wp2;exact⟨hid ⟨i+1,by go_num,O,by rw[ZaL HX.out.1,HX.out.2.1];exact F.out⟩,by simp[intOf];omega⟩
  obtain rfl:i=f.tells.length:=oq;have i1:¬(f.tells.length:Int)<(f.tells.length:Int):=oq;obtain⟨N,hN⟩:=ez ((XH f inl v u f.tells.length).length);have HS:=hid (jS (W:=q) (base:=L.heap.size) (ja:=ja) (cj:=jc) (XH f inl v u f.tells.length) hN (by have:=bd.out f.tells.length;have:=Nat.mul_le_mul_right 20001 (show f.tells.length≤1000 by omega);omega) dn (by rw[←hN];exact j.own));rw[hN];clear j;go_wp2_with (go_at_call 35;refine HS.out.mono ?_;rintro y w6 ⟨rfl,⟨l,dh,bw,bz⟩,hb6⟩;have HB6:=hid hb6;have cx:=hid bw;have cy:=hid bz;clear hb6 bw bz);go_ret2;refine⟨.inl ⟨bi.out.1,l,ja,jc,?_,by rw[dh];rfl,cy.out⟩,HB2.out.trans ((F.out.low.trans HB6.out).mono HB2.out.size)⟩;rw[bi.out.2];exact cx.out
 have E:=hid (fun W (hb:Below w.heap.size w W)=>(X.out W hb).mono (fun x w' h=>Zh (ZcE h.1 (by rw[z];exact he)) h.2));rw[z] at E;have aa:(er != 0)=true:=bne_iff_ne.2 he;have HE:=hid z;have cr:=hid he;go_enter func11,ntmps11;go_upto_region 1 with fail
 first|rw[G]|skip
 clear G X z he;go_wp2_with (go_at_call 32;refine(E.out _ HB.out).mono ?_;rintro x w2 ⟨rfl,hb2⟩;have HB2:=hid hb2;clear hb2);go_ret2;exact⟨Or.inr ⟨by rw[HE.out];exact cr.out,by rw[HE.out];rfl⟩,HB.out.trans (HB2.out.mono HB.out.size)⟩
end Go.Proofs.YtdgifkjaflfdeaaGreatDoor.syn
