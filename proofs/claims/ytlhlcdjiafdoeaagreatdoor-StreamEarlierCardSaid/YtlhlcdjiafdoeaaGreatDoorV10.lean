/- Parts of the proof. -/
import Derived.Test.YtlhlcdjiafdoeaaGreatDoorV08
set_option linter.all false
set_option maxRecDepth 100000
set_option maxHeartbeats 16000000
namespace Go.Proofs.YtlhlcdjiafdoeaaGreatDoor.syn
open Go.RowKit
theorem Ej {p f:Int} (hp:1≤p∧p≤2000) (hf:0≤f) (h:(clock.fin p f).2.2=0):clock.YA (clock.fin p f).1 (clock.fin p f).2.1=true:=by
 unfold clock.fin at h ⊢
 by_cases hl:f≤2000
 ·rw[Z0 hl];exact clock.XL ⟨hp.1,hp.2,hf,hl⟩
 rw[ZZ hl] at h;cases h
theorem yV {p f k n d:Int} (h:(clock.YC p f k n d).2.2=0):clock.YA (clock.YC p f k n d).1 (clock.YC p f k n d).2.1=true:=by
 unfold clock.YC at h ⊢
 by_cases h0:clock.YA p f=false∨k<3∨8<k
 ·rw[Z0 h0] at h;cases h
 rw[ZZ h0] at h ⊢
 have hr:clock.YA p f=true:=by
  cases hb:clock.YA p f with
  | true=>rfl
  | false=>exact absurd (Or.inl hb) h0
 have hb:=clock.XK.1 hr
 by_cases h1:clock.Q1 k n d=false
 ·rw[Z0 h1] at h;cases h
 rw[ZZ h1] at h ⊢
 have hfac:clock.Q1 k n d=true:=by
  cases hb:clock.Q1 k n d with
  | true=>rfl
  | false=>exact absurd hb h1
 by_cases h3:k=3
 ·rw[Z0 h3] at h ⊢
  have hn:=clock.jv (.inl h3) hfac
  by_cases hz:p%n=0
  ·rw[Z0 hz]
   have:=clock.Eg hb.1 hb.2.1 hn.1 hz
   exact clock.XL ⟨this.1,this.2,hb.2.2.1,hb.2.2.2⟩
  rw[ZZ hz] at h;cases h
 rw[ZZ h3] at h ⊢
 by_cases h4:k=4
 ·rw[Z0 h4] at h ⊢
  have hn:=clock.jv (.inr h4) hfac
  by_cases hz:p*n≤2000
  ·rw[Z0 hz]
   exact clock.XL ⟨clock.kT hb.1 hn.1,hz,hb.2.2.1,hb.2.2.2⟩
  rw[ZZ hz] at h;cases h
 rw[ZZ h4] at h ⊢
 by_cases h5:k=5
 ·rw[Z0 h5] at h ⊢
  subst h5
  have hn:=clock.ZcA hfac
  by_cases hz:p*n%d=0
  ·rw[Z0 hz] at h ⊢
   have h6:0≤p*n:=Int.mul_nonneg oq hn.2.2.1
   have h7:0≤p*n/d:=Int.ediv_nonneg h6 oq
   exact Ej ⟨hb.1,hb.2.1⟩ oq h
  rw[ZZ hz] at h;cases h
 rw[ZZ h5] at h ⊢
 by_cases h6:k=6
 ·rw[Z0 h6];exact hr
 rw[ZZ h6] at h ⊢
 by_cases h7:k=7
 ·rw[Z0 h7] at h ⊢
  exact Ej ⟨hb.1,hb.2.1⟩ oq h
 rw[ZZ h7] at h ⊢
 by_cases h8:p≤f
 ·rw[Z0 h8]
  show clock.YA p (f-p)=true
  exact clock.XL ⟨hb.1,hb.2.1,oq,oq⟩
 rw[ZZ h8] at h;cases h
def RtE (env:Env):Prop:=∀nm c,env nm=some c→clock.YA c.1 c.2=true
theorem US {env:Env} (h:RtE env) {k:Int} {nm:ByteArray} {n d a:Int} {s:TT} (hs:∀p f,s=.ok p f→clock.YA p f=true) {p f:Int} (ht:XQ env k nm n d a s=.ok p f):clock.YA p f=true:=by
 unfold XQ at ht
 by_cases hk:k=1
 ·rw[Z0 hk] at ht
  cases he:env nm with
  | none=>rw[he] at ht;cases ht
  | some c =>
   rw[he] at ht
   injection ht with h1 h2
   rw[←h1,←h2];exact h nm c he
 rw[ZZ hk] at ht
 cases s with
 | unk=>cases ht
 | bad a e=>cases ht
 | ok p0 f0 =>
  simp only at ht
  by_cases hk2:k=2
  ·rw[Z0 hk2] at ht
   exact hs p f ht
  rw[ZZ hk2] at ht
  by_cases h0:(clock.YC p0 f0 k n d).2.2=0
  ·rw[Z0 h0] at ht
   injection ht with h1 h2
   rw[←h1,←h2];exact yV h0
  rw[ZZ h0] at ht;cases ht
theorem xh {env:Env} (h:RtE env):∀(l:PL) (p f:Int),Xn env l=.ok p f→clock.YA p f=true:=by
 intro l
 induction l with
 | nil=>intro p f ht;cases ht
 | cons k nm n d args a tl ih1 ih2 =>
  intro p f ht
  rw[Xn] at ht
  cases h1:XQ env k nm n d a (Xn env args) with
  | unk=>rw[h1] at ht;exact ih2 p f ht
  | bad ab eb=>rw[h1] at ht;cases ht
  | ok p1 f1 =>
   rw[h1] at ht
   injection ht with e1 e2
   subst e1;subst e2
   exact US h ih1 h1
theorem xg {env:Env} (h:RtE env) {e:PE} {p f:Int} (ht:Qg env e=.ok p f):clock.YA p f=true:=US h (xh h e.args) ht
def ew (a b:Env):Prop:=∀nm c,a nm=some c→b nm=some c
def unf (env:Env):List FL→Nat
 | []=>0
 | f::fs=>(if env f.nm=none then 1 else 0)+unf env fs
theorem ZaL (env:Env) (k:ByteArray) (c:Int × Int):∀fs:List FL,unf (upd env k c) fs≤unf env fs:=by
 intro fs
 induction fs with
 | nil=>exact Zc _
 | cons f fs ih =>
  unfold unf
  have:(if upd env k c f.nm=none then 1 else 0)≤(if env f.nm=none then 1 else 0):=by
   unfold upd
   by_cases h:f.nm=k
   ·rw[Z0 h];simp
   rw[ZZ h];exact Zc _
  omega
theorem uw (env:Env) (k:ByteArray) (c:Int × Int) (hk:env k=none):∀fs:List FL,(∃f∈fs,f.nm=k)→unf (upd env k c) fs+1≤unf env fs:=by
 intro fs
 induction fs with
 | nil=>rintro⟨f,hf,_⟩;cases hf
 | cons f fs ih =>
  rintro⟨g,hg,hgk⟩
  unfold unf
  by_cases h:f.nm=k
  ·have h1:(if upd env k c f.nm=none then 1 else 0)=0:=by unfold upd;rw[Z0 h];simp
   have h2:(if env f.nm=none then 1 else 0)=1:=by rw[h,hk];simp
   have h3:=ZaL env k c fs
   omega
  have h4:∃f∈fs,f.nm=k:=by
   rcases ZQ.1 hg with rfl|hg
   ·exact absurd hgk h
   exact⟨g,hg,hgk⟩
  have h5:=ih h4
  have:(if upd env k c f.nm=none then 1 else 0)=(if env f.nm=none then 1 else 0):=by
   unfold upd;rw[ZZ h]
  omega
theorem Zb0 (env:Env):∀fs:List FL,unf env fs≤fs.length:=by
 intro fs
 induction fs with
 | nil=>exact Zc _
 | cons f fs ih=>unfold unf;rw[Zp];split<;>omega
inductive GrE (YX:Env) (flows:List FL):Env→Prop where
 | base:GrE YX flows YX
 | step {env:Env} {f:FL} {p q:Int}:GrE YX flows env→f∈flows→env f.nm=none→Qg env f.e=.ok p q→GrE YX flows (upd env f.nm (p,q))
structure FG (YX:Env) (n0:Nat) (flows:List FL) (env:Env) (L:List (ByteArray × Value)):Prop where
 gr:GrE YX flows env
 ext:ew YX env
 rt:RtE env
 cnt:L.length+unf env flows≤n0+flows.length
theorem FG.put {YX:Env} {n0:Nat} {flows:List FL} {env:Env} {L:List (ByteArray × Value)} (h:FG YX n0 flows env L) {i:Nat} (hi:i<flows.length) (hn:env flows[i].nm=none) (hg:YT flows[i].nm L=none) {c:Int × Int} (ht:Qg env flows[i].e=.ok c.1 c.2) (hc:clock.YA c.1 c.2=true) (v:Value) :
  FG YX n0 flows (upd env flows[i].nm c) (QZ flows[i].nm v L):=by
 refine⟨.step h.gr (Zi hi) hn ht,fun nm d hd=>?_,fun nm d hd=>?_,?_⟩
 ·unfold upd
  have:=h.ext nm d hd
  by_cases he:nm=flows[i].nm
  ·rw[he,hn] at this;cases this
  rw[ZZ he];exact this
 ·unfold upd at hd
  by_cases he:nm=flows[i].nm
  ·rw[Z0 he] at hd;injection hd with hd;rw[←hd];exact hc
  rw[ZZ he] at hd;exact h.rt nm d hd
 rw[yR _ _ _ hg]
 have:=uw env flows[i].nm c hn flows ⟨_,Zi hi,rfl⟩
 have:=h.cnt
 omega
def ZcV (W0 w:World) (mb:Nat) (L0:List (ByteArray × Value)) (YX:Env) (flows:List FL) (v:Value) (wr:World):Prop :=
 ∃(b:Bool) (env:Env) (L:List (ByteArray × Value)),v=.bool b∧FW W0 w wr mb L env∧FG YX L0.length flows env L
def InG (W0 w:World) (mb:Nat) (L0:List (ByteArray × Value)) (YX:Env) (flows:List FL) (n1:Nat) (v6 v15:Value) (wr:World):Prop :=
 ∃(i:Nat) (b:Bool) (env:Env) (L:List (ByteArray × Value)),v15=.int .i64 (i:Int)∧v6=.bool b∧i≤flows.length∧FW W0 w wr mb L env∧FG YX L0.length flows env L∧n1+(isT (.bool b))≤L.length
def Zcb (YX:Env) (flows:List FL) (mb:Nat) (w:World) (x:Ending) (w':World):Prop :=
 ((∃a e,e≠0∧x=.returned (.tuple #[.int .i64 a,.int .i64 e]))∨(x=Vq∧∃L env,YJ w' mb L∧Xt L env∧RtE env∧ew YX env∧GrE YX flows env))∧Upon mb w w'
theorem ku {W0 w:World} (flows:List FL) (af:Option Addr) (cf mb:Nat) (L0:List (ByteArray × Value)) (YX:Env) (hW:Below W0.heap.size W0 w) (hmb:W0.heap.size≤mb) (hr:Row FlC 8 W0 flows af) (hc1:flows.length≤cf) (hc2:cf≤9223372036854775807)
  (hM:YJ w mb L0) (hE:Xt L0 YX) (hR0:RtE YX) :
  Calls Tryz.prog 41 #[.map (some mb),.slice af flows.length cf] w (Zcb YX flows mb w):=by
 have HW:=hid hW
 have HR:=hid hr
 have HFW0:=hid (show FW W0 w w mb L0 YX from ⟨Upon.refl _ _,hM,hE⟩)
 have HFG0:=hid (show FG YX L0.length flows YX L0 from ⟨.base,fun _ _ h=>h,hR0,by have:=Zb0 YX flows;omega⟩)
 have HLT:=hM.lt
 have hfl64:flows.length≤9223372036854775807:=Zm hc1 hc2
 clear hW hr hM hE hR0
 go_enter Tryz.func41,Tryz.ntmps41
 go_wp2
 go_loopw [6] (fun v wr=>Hid (ZcV W0 w mb L0 YX flows v wr)) (fun v wr=>L0.length+flows.length+1-ym wr mb+isT v)
 case atStart=>exact⟨true,YX,L0,rfl,HFW0.out,HFG0.out⟩
 obtain⟨b,env,L,rfl,hfw,hfg⟩:=hrel.out
 clear hrel
 have hmz:ym wr mb=L.length:=hfw.map.size
 have hcnt:=hfg.cnt
 have HFA:=hid hfw
 have HGA:=hid hfg
 clear hfw hfg
 cases b with
 | false =>
  go_wp2
  go_ret2
  exact⟨.inr ⟨rfl,L,env,HFA.out.map,HFA.out.env,HGA.out.rt,HGA.out.ext,HGA.out.gr⟩,HFA.out.upon⟩
 | true =>
  obtain⟨n1,hn1⟩:∃n1,L.length=n1:=⟨_,rfl⟩
  rw[hn1] at hmz hcnt
  have HN1:=hid hn1
  clear hn1
  obtain⟨wo,hwo⟩:∃wo,wo=wr:=⟨_,rfl⟩
  go_wp2
  go_loopw [6,15] (fun v6 v15 wr=>Hid (InG W0 w mb L0 YX flows n1 v6 v15 wr)) (fun _ i _=>flows.length-(intOf i).toNat)
  case atStart=>exact⟨0,false,env,L,rfl,rfl,Zk _,HFA.out,HGA.out,by have:=HN1.out;simp only[isT];omega⟩
  clear HFA HGA HN1
  obtain⟨i,b,env,L,rfl,rfl,hi,hfw,hfg,hln⟩:=hrel.out
  clear hrel
  have HFW:=hid hfw
  have HFG:=hid hfg
  have HLN:=hid hln
  have hmz2:ym wr mb=L.length:=hfw.map.size
  have hsW:w.heap.size≤wr.heap.size:=hfw.upon.size
  have hmlt:=hfw.map.lt
  clear hfg
  by_cases hlt:i<flows.length
  ·have hrow:=HR.out.below JI (HW.out.trans (HFW.out.upon.below HW.out.size hmb))
   obtain⟨bb,oo,rfl,hbb,hfl⟩:=hrow.at hlt
   have hput:=HFG.out.put hlt
   obtain⟨f,hf⟩:∃f,flows[i]=f:=⟨_,rfl⟩
   rw[hf] at hfl hput
   obtain⟨nm,⟨k1,nm1,n1',d1,args1,a1⟩,fa⟩:=f
   obtain⟨ad1,cap1,x0,x1,x2,x3,x4,x5,x6,x7,hae,hfn⟩:=hfl.cells
   simp only at hput hae
   have hie:(i:Int)<(flows.length:Int):=oq
   cases hen:env nm with
   | some c =>
    obtain⟨c1,c2⟩:=c
    have HG:=hid (show YT nm L=some (.agg #[.int .i64 c1,.int .i64 c2]) by rw[hfw.env nm,hen];rfl)
    clear hfw hrow hae hen hput hln
    go_wp2_with (at_lookup;refine Xy Xc _ rfl _ _ rfl mb L nm _ rfl rfl (HFW.out.map.below bq) HG.out ?_)
    refine⟨⟨i+1,b,env,L,by go_num,rfl,oq,⟨(by repeat (first|(with_reducible exact Upon.refl _ _)|((with_reducible refine Upon.setAt ?_ ?_ _);(rotate_left;focus (first|exact Or.inl rfl|omega|(simp;done)|(simp;omega))))|(with_reducible refine Upon.alloc ?_ _)|(with_reducible refine Upon.drewN ?_ _)|(with_reducible refine Upon.drew ?_)|(with_reducible refine Upon.trans ?_ (Upon.of_below hb2))|(with_reducible refine Upon.trans ?_ HFW.out.upon))),HFW.out.map.below bq,HFW.out.env⟩,HFG.out,HLN.out⟩,by simp[intOf];omega⟩
   | none =>
    have hgn:YT nm L=none:=by rw[hfw.env nm,hen];rfl
    have HG:=hid hgn
    have HPUT:=hid (fun(c:Int × Int) (ht) (hc:clock.YA c.1 c.2=true) (v:Value)=>hput hen hgn (c:=c) ht hc v)
    have HC:=hid (Gy hfw.env ⟨k1,nm1,n1',d1,args1,a1⟩)
    have HE:=hid hae
    have hgd:=VE env ⟨k1,nm1,n1',d1,args1,a1⟩
    have hrt:=fun p f=>xg (e:=⟨k1,nm1,n1',d1,args1,a1⟩) (p:=p) (f:=f) HFG.out.rt
    unfold Qx at HC
    simp only at HC
    clear hfw hrow hae hen hgn hput hln
    generalize htt:Qg env ⟨k1,nm1,n1',d1,args1,a1⟩=t at hgd hrt HC
    have HTT:=hid htt
    clear htt
    cases t with
    | unk =>
     simp only[TT.v] at HC
     clear hgd hrt
     go_wp2_with (first|(at_lookup;refine Y4 Xc _ rfl _ _ rfl mb L nm rfl rfl (HFW.out.map.below bq) HG.out ?_)|(go_at_call 70;(with_reducible refine(HC.out _ _ _ _ (HE.out.below bq) (HFW.out.map.below bq)).mono ?_);rintro x w2 ⟨rfl,hb2⟩;obtain⟨hc2,hf2⟩:=Yx hb2;have a2:wr.heap.size<w2.heap.size:=Yv hb2 oq;have a3:wr.heap.size+1<w2.heap.size:=Yv hb2 oq))
     refine⟨⟨i+1,b,env,L,by go_num,rfl,oq,⟨(by repeat (first|(with_reducible exact Upon.refl _ _)|((with_reducible refine Upon.setAt ?_ ?_ _);(rotate_left;focus (first|exact Or.inl rfl|omega|(simp;done)|(simp;omega))))|(with_reducible refine Upon.alloc ?_ _)|(with_reducible refine Upon.drewN ?_ _)|(with_reducible refine Upon.drew ?_)|(with_reducible refine Upon.trans ?_ (Upon.of_below hb2))|(with_reducible refine Upon.trans ?_ HFW.out.upon))),HFW.out.map.below bq,HFW.out.env⟩,HFG.out,HLN.out⟩,by simp[intOf];omega⟩
    | bad ab eb =>
     simp only[TT.v] at HC
     have heb:(eb == 0)=false:=ZW.2 hgd
     clear hrt
     go_wp2_with (first|(at_lookup;refine Y4 Xc _ rfl _ _ rfl mb L nm rfl rfl (HFW.out.map.below bq) HG.out ?_)|(go_at_call 70;(with_reducible refine(HC.out _ _ _ _ (HE.out.below bq) (HFW.out.map.below bq)).mono ?_);rintro x w2 ⟨rfl,hb2⟩;obtain⟨hc2,hf2⟩:=Yx hb2;have a2:wr.heap.size<w2.heap.size:=Yv hb2 oq;have a3:wr.heap.size+1<w2.heap.size:=Yv hb2 oq))
     go_quiet (fail)
     go_wp2
     go_ret2
     exact⟨.inl ⟨ab,eb,hgd,rfl⟩,(by repeat (first|(with_reducible exact Upon.refl _ _)|((with_reducible refine Upon.setAt ?_ ?_ _);(rotate_left;focus (first|exact Or.inl rfl|omega|(simp;done)|(simp;omega))))|(with_reducible refine Upon.alloc ?_ _)|(with_reducible refine Upon.drewN ?_ _)|(with_reducible refine Upon.drew ?_)|(with_reducible refine Upon.trans ?_ (Upon.of_below hb2))|(with_reducible refine Upon.trans ?_ HFW.out.upon)))⟩
    | ok p q =>
     simp only[TT.v] at HC
     have HRT:=hid (hrt p q rfl)
     clear hgd hrt
     go_wp2_with (first|(at_lookup;refine Y4 Xc _ rfl _ _ rfl mb L nm rfl rfl (HFW.out.map.below bq) HG.out ?_)|(go_at_call 70;(with_reducible refine(HC.out _ _ _ _ (HE.out.below bq) (HFW.out.map.below bq)).mono ?_);rintro x w2 ⟨rfl,hb2⟩;obtain⟨hc2,hf2⟩:=Yx hb2;have a2:wr.heap.size<w2.heap.size:=Yv hb2 oq;have a3:wr.heap.size+1<w2.heap.size:=Yv hb2 oq)|(at_mapUpdate;refine Xe Xc _ rfl _ _ _ rfl mb L nm (cvv (p,q)) rfl rfl rfl (HFW.out.map.below bq) ?_;intro arr clock hm2))
     refine⟨?_,by simp[intOf];omega⟩
     refine⟨i+1,true,upd env nm (p,q),_,by go_num,rfl,oq,⟨YI (by repeat (first|(with_reducible exact Upon.refl _ _)|((with_reducible refine Upon.setAt ?_ ?_ _);(rotate_left;focus (first|exact Or.inl rfl|omega|(simp;done)|(simp;omega))))|(with_reducible refine Upon.alloc ?_ _)|(with_reducible refine Upon.drewN ?_ _)|(with_reducible refine Upon.drew ?_)|(with_reducible refine Upon.trans ?_ (Upon.of_below hb2))|(with_reducible refine Upon.trans ?_ HFW.out.upon))) _,hm2,HFW.out.env.put nm (p,q)⟩,HPUT.out (p,q) HTT.out HRT.out _,?_⟩
     rw[yR _ _ _ HG.out]
     have:=HLN.out
     simp only[isT]
     omega
  have hcn:=HFG.out.cnt
  clear hfw
  go_wp2
  refine⟨⟨b,env,L,rfl,HFW.out,HFG.out⟩,?_⟩
  cases b<;>simp only[isT] at hln ⊢<;>omega
def Ex (x:Ending):Prop:=∃a e,e≠0∧x=.returned (.tuple #[.int .i64 a,.int .i64 e])
def FdS (env:Env) (f:FL):Prop:=∃c,env f.nm=some c
def ZaQ (w:World) (flows:List FL) (S:FL→Prop) (v:Value) (wr:World):Prop:=∃i:Nat,v=.int .i64 (i:Int)∧i≤flows.length∧(∀j (h:j<flows.length),j<i→S flows[j])∧Below w.heap.size w wr
theorem Er {flows:List FL} {S:FL→Prop} {i:Nat} (h:∀j (hj:j<flows.length),j<i→S flows[j]) (hi:∀hj:i<flows.length,S flows[i]):∀j (hj:j<flows.length),j<i+1→S flows[j]:=by
 intro j hj hji
 by_cases h1:j<i
 ·exact h j hj h1
 have:j=i:=oq
 subst this;exact hi hj
theorem xm {flows:List FL} {S:FL→Prop} {i:Nat} (h:∀j (hj:j<flows.length),j<i→S flows[j]) (hi:flows.length≤i):∀f∈flows,S f:=by
 intro f hf
 obtain⟨j,hj,rfl⟩:=Yj hf
 exact h j hj oq
theorem EH {w:World} (flows:List FL) (af:Option Addr) (cf mb:Nat) (L:List (ByteArray × Value)) (env:Env) (hr:Row FlC 8 w flows af) (hc1:flows.length≤cf) (hc2:cf≤9223372036854775807)
  (hM:YJ w mb L) (hE:Xt L env) :
  Calls Tryz.prog 42 #[.map (some mb),.slice af flows.length cf] w fun x w'=>(Ex x∨(x=Vq∧∀f∈flows,FdS env f))∧Below w.heap.size w w':=by
 have HR:=hid hr
 have HM:=hid hM
 have hfl64:flows.length≤9223372036854775807:=Zm hc1 hc2
 clear hr hM
 go_enter Tryz.func42,Tryz.ntmps42
 go_wp2
 go_loopw [12] (fun v wr=>Hid (ZaQ w flows (FdS env) v wr)) (fun i _=>flows.length-(intOf i).toNat)
 case atStart=>exact⟨0,rfl,Zk _,fun j hj h=>absurd h oq,bq⟩
 obtain⟨i,rfl,hi,hS,hbel⟩:=hrel.out
 clear hrel
 have HBEL:=hid hbel
 have HS:=hid hS
 have hsW:=hbel.size
 clear hS
 by_cases hlt:i<flows.length
 ·have hrow:=HR.out.below JI hbel
  obtain⟨bb,oo,rfl,hbb,hfl⟩:=hrow.at hlt
  have HNX:=hid (fun h:FdS env flows[i]=>Er (S:=FdS env) HS.out (fun _=>h))
  obtain⟨f,hf⟩:∃f,flows[i]=f:=⟨_,rfl⟩
  rw[hf] at hfl HNX
  obtain⟨nm,⟨k1,nm1,n1,d1,args1,a1⟩,fa⟩:=f
  obtain⟨ad1,cap1,x0,x1,x2,x3,x4,x5,x6,x7,hae,hfn⟩:=hfl.cells
  try simp only at HNX
  have hie:(i:Int)<(flows.length:Int):=oq
  cases hc:env nm with
  | some c =>
   obtain⟨c1,c2⟩:=c
   have HG:=hid (show YT nm L=some (.agg #[.int .i64 c1,.int .i64 c2]) by rw[hE nm,hc];rfl)
   have HC:=hid (HNX.out (show FdS env _ from ⟨_,hc⟩))
   clear hbel hrow hae hc HNX
   go_wp2_with (at_lookup;refine Xy Xc _ rfl _ _ rfl mb L nm _ rfl rfl (HM.out.below bq) HG.out ?_)
   refine⟨⟨i+1,by go_num,oq,HC.out,bq⟩,by simp[intOf];omega⟩
  | none =>
   have HG:=hid (show YT nm L=none by rw[hE nm,hc];rfl)
   clear hbel hrow hae hc HNX
   go_wp2_with (at_lookup;refine Y4 Xc _ rfl _ _ rfl mb L nm rfl rfl (HM.out.below bq) HG.out ?_)
   go_ret2
   exact⟨.inl ⟨fa,6,by decide,rfl⟩,bq⟩
 go_wp2
 go_ret2
 exact⟨.inr ⟨rfl,xm (S:=FdS env) (i:=i) HS.out oq⟩,HBEL.out⟩
def FcS (env:Env) (f:FL):Prop:=∃p q,Qg env f.e=.ok p q∧env f.nm=some (p,q)
theorem EG {w:World} (flows:List FL) (af:Option Addr) (cf mb:Nat) (L:List (ByteArray × Value)) (env:Env) (hr:Row FlC 8 w flows af) (hc1:flows.length≤cf) (hc2:cf≤9223372036854775807)
  (hM:YJ w mb L) (hE:Xt L env) (hA:∀f∈flows,∃c,env f.nm=some c) (hRt:RtE env) :
  Calls Tryz.prog 44 #[.map (some mb),.slice af flows.length cf] w fun x w'=>(Ex x∨(x=Vq∧∀f∈flows,FcS env f))∧Below w.heap.size w w':=by
 have HR:=hid hr
 have HM:=hid hM
 have HA:=hid hA
 have HRT:=hid hRt
 have hfl64:flows.length≤9223372036854775807:=Zm hc1 hc2
 clear hr hM hA hRt
 go_enter Tryz.func44,Tryz.ntmps44
 go_wp2
 go_loopw [10] (fun v wr=>Hid (ZaQ w flows (FcS env) v wr)) (fun i _=>flows.length-(intOf i).toNat)
 case atStart=>exact⟨0,rfl,Zk _,fun j hj h=>absurd h oq,bq⟩
 obtain⟨i,rfl,hi,hS,hbel⟩:=hrel.out
 clear hrel
 have HBEL:=hid hbel
 have HS:=hid hS
 have hsW:=hbel.size
 clear hS
 by_cases hlt:i<flows.length
 ·have hrow:=HR.out.below JI hbel
  obtain⟨bb,oo,rfl,hbb,hfl⟩:=hrow.at hlt
  obtain⟨c,hc⟩:=HA.out flows[i] (Zi hlt)
  have HNX:=hid (fun h:FcS env flows[i]=>Er (S:=FcS env) HS.out (fun _=>h))
  obtain⟨f,hf⟩:∃f,flows[i]=f:=⟨_,rfl⟩
  rw[hf] at hfl hc HNX
  obtain⟨nm,⟨k1,nm1,n1,d1,args1,a1⟩,fa⟩:=f
  obtain⟨ad1,cap1,x0,x1,x2,x3,x4,x5,x6,x7,hae,hfn⟩:=hfl.cells
  simp only at hc
  obtain⟨c1,c2⟩:=c
  have hrt:=clock.XK.1 (HRT.out nm (c1,c2) hc)
  simp only at hrt
  have hg:YT nm L=some (.agg #[.int .i64 c1,.int .i64 c2]):=by rw[hE nm,hc];rfl
  have HG:=hid hg
  have hMr:=HM.out.below hbel
  have hl1:=Jk (w:=(wr.alloc (Obj.cells #[.string nm,.int .i64 k1,.string nm1,.int .i64 n1,.int .i64 d1,.slice ad1 args1.len cap1,.int .i64 a1,.int .i64 fa] 104)).drew) (hMr.below bq) hg
  have HC:=hid (Gy hE ⟨k1,nm1,n1,d1,args1,a1⟩)
  have HE:=hid hae
  unfold Qx at HC
  simp only at HC
  have hFC:∀p q,Qg env ⟨k1,nm1,n1,d1,args1,a1⟩=.ok p q→(p=c1∧q=c2)→FcS env ⟨nm,⟨k1,nm1,n1,d1,args1,a1⟩,fa⟩:=fun p q h1 h2=>⟨p,q,h1,by rw[h2.1,h2.2];exact hc⟩
  have hie:(i:Int)<(flows.length:Int):=oq
  have HMR:=hid hMr
  clear hbel hrow hae hc hg hMr
  generalize htt:Qg env ⟨k1,nm1,n1,d1,args1,a1⟩=t at HC hFC
  cases t with
  | unk =>
   simp only[TT.v] at HC
   have hfd:=fun w=>VF w 0 0 0 0 false
   have hne:¬(0:Int)=c1:=oq
   clear hFC HNX htt hrt
   go_wp2
   go_region_with (go_at_call 70;(with_reducible refine(HC.out _ _ _ _ (HE.out.below bq) (HMR.out.below bq)).mono ?_);rintro x w2 ⟨rfl,hb2⟩;obtain⟨hc2,hf2⟩:=Yx hb2;have a2:wr.heap.size<w2.heap.size:=Yv hb2 oq;have hl2:=Jk (w:=w2) (HMR.out.below bq) HG.out)
   all_goals go_wp2
   all_goals (go_ret2;exact⟨.inl ⟨fa,5,by decide,rfl⟩,bq⟩)
  | bad ab eb =>
   simp only[TT.v] at HC
   have hfd:=fun w=>VF w 0 0 ab eb false
   have hne:¬(0:Int)=c1:=oq
   clear hFC HNX htt hrt
   go_wp2
   go_region_with (go_at_call 70;(with_reducible refine(HC.out _ _ _ _ (HE.out.below bq) (HMR.out.below bq)).mono ?_);rintro x w2 ⟨rfl,hb2⟩;obtain⟨hc2,hf2⟩:=Yx hb2;have a2:wr.heap.size<w2.heap.size:=Yv hb2 oq;have hl2:=Jk (w:=w2) (HMR.out.below bq) HG.out)
   all_goals go_wp2
   all_goals (go_ret2;exact⟨.inl ⟨fa,5,by decide,rfl⟩,bq⟩)
  | ok p q =>
   simp only[TT.v] at HC
   have hfd:=fun w=>VF w p q 0 0 true
   by_cases h1:p=c1
   ·by_cases h2:q=c2
    ·have HN:=hid (HNX.out (hFC p q rfl ⟨h1,h2⟩))
     subst h1;subst h2
     clear hFC HNX htt hrt
     go_wp2
     go_region_with (go_at_call 70;(with_reducible refine(HC.out _ _ _ _ (HE.out.below bq) (HMR.out.below bq)).mono ?_);rintro x w2 ⟨rfl,hb2⟩;obtain⟨hc2,hf2⟩:=Yx hb2;have a2:wr.heap.size<w2.heap.size:=Yv hb2 oq;have hl2:=Jk (w:=w2) (HMR.out.below bq) HG.out)
     all_goals go_wp2
     all_goals refine⟨⟨i+1,by go_num,oq,HN.out,bq⟩,by simp[intOf];omega⟩
    subst h1
    clear hFC HNX htt hrt
    go_wp2
    go_region_with (go_at_call 70;(with_reducible refine(HC.out _ _ _ _ (HE.out.below bq) (HMR.out.below bq)).mono ?_);rintro x w2 ⟨rfl,hb2⟩;obtain⟨hc2,hf2⟩:=Yx hb2;have a2:wr.heap.size<w2.heap.size:=Yv hb2 oq;have hl2:=Jk (w:=w2) (HMR.out.below bq) HG.out)
    all_goals go_wp2
    all_goals (go_ret2;exact⟨.inl ⟨fa,5,by decide,rfl⟩,bq⟩)
   clear hFC HNX htt hrt
   go_wp2
   go_region_with (go_at_call 70;(with_reducible refine(HC.out _ _ _ _ (HE.out.below bq) (HMR.out.below bq)).mono ?_);rintro x w2 ⟨rfl,hb2⟩;obtain⟨hc2,hf2⟩:=Yx hb2;have a2:wr.heap.size<w2.heap.size:=Yv hb2 oq;have hl2:=Jk (w:=w2) (HMR.out.below bq) HG.out)
   all_goals go_wp2
   all_goals (go_ret2;exact⟨.inl ⟨fa,5,by decide,rfl⟩,bq⟩)
 go_wp2
 go_ret2
 exact⟨.inr ⟨rfl,xm (S:=FcS env) (i:=i) HS.out oq⟩,HBEL.out⟩
end Go.Proofs.YtlhlcdjiafdoeaaGreatDoor.syn
