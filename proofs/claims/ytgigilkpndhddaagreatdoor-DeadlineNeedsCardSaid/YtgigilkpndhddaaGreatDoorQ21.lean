/-
  Parts of the proof: ChkG1, ChkG2, ChkG3.
-/
import Derived.Test.YtgigilkpndhddaaGreatDoorQ16
import Derived.Test.YtgigilkpndhddaaGreatDoorQ17
namespace Go.Proofs.YtgigilkpndhddaaGreatDoor.syn
set_option linter.unusedVariables false
set_option linter.unusedSimpArgs false
set_option linter.unnecessarySimpa false
set_option maxRecDepth 100000
set_option maxHeartbeats 16000000
open Go.RowKit
theorem EI {p f:Int} (hp:1≤p∧p≤2000) (hf:0≤f) (h:(clock.fin p f).2.2=0):clock.Yz (clock.fin p f).1 (clock.fin p f).2.1=true:=by
 unfold clock.fin at h ⊢
 by_cases hl:f≤2000
 ·rw[Z2 hl];exact clock.XL ⟨hp.1,hp.2,hf,hl⟩
 rw[Z1 hl] at h;cases h
theorem xL {p f k n d:Int} (h:(clock.Yx p f k n d).2.2=0):clock.Yz (clock.Yx p f k n d).1 (clock.Yx p f k n d).2.1=true:=by
 unfold clock.Yx at h ⊢
 by_cases h0:clock.Yz p f=false∨k<3∨8<k
 ·rw[Z2 h0] at h;cases h
 rw[Z1 h0] at h ⊢
 have hr:clock.Yz p f=true:=by
  cases hb:clock.Yz p f with
  | true=>rfl
  | false=>exact absurd (Or.inl hb) h0
 have hb:=clock.Xd.1 hr
 by_cases h1:clock.Jd k n d=false
 ·rw[Z2 h1] at h;cases h
 rw[Z1 h1] at h ⊢
 have hfac:clock.Jd k n d=true:=by
  cases hb:clock.Jd k n d with
  | true=>rfl
  | false=>exact absurd hb h1
 by_cases h3:k=3
 ·rw[Z2 h3] at h ⊢
  have hn:=clock.jU (.inl h3) hfac
  by_cases hz:p%n=0
  ·rw[Z2 hz]
   have:=clock.Em hb.1 hb.2.1 hn.1 hz
   exact clock.XL ⟨this.1,this.2,hb.2.2.1,hb.2.2.2⟩
  rw[Z1 hz] at h;cases h
 rw[Z1 h3] at h ⊢
 by_cases h4:k=4
 ·rw[Z2 h4] at h ⊢
  have hn:=clock.jU (.inr h4) hfac
  by_cases hz:p*n≤2000
  ·rw[Z2 hz]
   exact clock.XL ⟨clock.gy hb.1 hn.1,hz,hb.2.2.1,hb.2.2.2⟩
  rw[Z1 hz] at h;cases h
 rw[Z1 h4] at h ⊢
 by_cases h5:k=5
 ·rw[Z2 h5] at h ⊢
  subst h5
  have hn:=clock.Zde hfac
  by_cases hz:p*n%d=0
  ·rw[Z2 hz] at h ⊢
   have h6:0≤p*n:=Int.mul_nonneg oq hn.2.2.1
   have h7:0≤p*n/d:=Int.ediv_nonneg h6 oq
   exact EI ⟨hb.1,hb.2.1⟩ oq h
  rw[Z1 hz] at h;cases h
 rw[Z1 h5] at h ⊢
 by_cases h6:k=6
 ·rw[Z2 h6];exact hr
 rw[Z1 h6] at h ⊢
 by_cases h7:k=7
 ·rw[Z2 h7] at h ⊢
  exact EI ⟨hb.1,hb.2.1⟩ oq h
 rw[Z1 h7] at h ⊢
 by_cases h8:p≤f
 ·rw[Z2 h8]
  show clock.Yz p (f-p)=true
  exact clock.XL ⟨hb.1,hb.2.1,oq,oq⟩
 rw[Z1 h8] at h;cases h
def RtE (env:Env):Prop:=∀nm c,env nm=some c→clock.Yz c.1 c.2=true
theorem U2 {env:Env} (h:RtE env) {k:Int} {nm:ByteArray} {n d a:Int} {s:TT} (hs:∀p f,s=.ok p f→clock.Yz p f=true) {p f:Int} (ht:XR env k nm n d a s=.ok p f):clock.Yz p f=true:=by
 unfold XR at ht
 by_cases hk:k=1
 ·rw[Z2 hk] at ht
  cases he:env nm with
  | none=>rw[he] at ht;cases ht
  | some c =>
   rw[he] at ht
   injection ht with h1 h2
   rw[←h1,←h2];exact h nm c he
 rw[Z1 hk] at ht
 cases s with
 | unk=>cases ht
 | bad a e=>cases ht
 | ok p0 f0 =>
  simp only at ht
  by_cases hk2:k=2
  ·rw[Z2 hk2] at ht
   exact hs p f ht
  rw[Z1 hk2] at ht
  by_cases h0:(clock.Yx p0 f0 k n d).2.2=0
  ·rw[Z2 h0] at ht
   injection ht with h1 h2
   rw[←h1,←h2];exact xL h0
  rw[Z1 h0] at ht;cases ht
theorem xC {env:Env} (h:RtE env):∀(l:PL) (p f:Int),Xo env l=.ok p f→clock.Yz p f=true:=by
 intro l
 induction l with
 | nil=>intro p f ht;cases ht
 | cons k nm n d args a tl ih1 ih2 =>
  intro p f ht
  rw[Xo] at ht
  cases h1:XR env k nm n d a (Xo env args) with
  | unk=>rw[h1] at ht;exact ih2 p f ht
  | bad ab eb=>rw[h1] at ht;cases ht
  | ok p1 f1 =>
   rw[h1] at ht
   injection ht with e1 e2
   subst e1;subst e2
   exact U2 h ih1 h1
theorem xu {env:Env} (h:RtE env) {e:PE} {p f:Int} (ht:Qd env e=.ok p f):clock.Yz p f=true:=U2 h (xC h e.args) ht
def Za2 (a b:Env):Prop:=∀nm c,a nm=some c→b nm=some c
def unf (env:Env):List FL→Nat
 | []=>0
 | f::fs=>(if env f.nm=none then 1 else 0)+unf env fs
theorem Zbt (env:Env) (k:ByteArray) (c:Int × Int):∀fs:List FL,unf (upd env k c) fs≤unf env fs:=by
 intro fs
 induction fs with
 | nil=>exact Zc _
 | cons f fs ih =>
  unfold unf
  have:(if upd env k c f.nm=none then 1 else 0)≤(if env f.nm=none then 1 else 0):=by
   unfold upd
   by_cases h:f.nm=k
   ·rw[Z2 h];simp
   rw[Z1 h];exact Zc _
  omega
theorem uQ (env:Env) (k:ByteArray) (c:Int × Int) (hk:env k=none):∀fs:List FL,(∃f∈fs,f.nm=k)→unf (upd env k c) fs+1≤unf env fs:=by
 intro fs
 induction fs with
 | nil=>rintro⟨f,hf,_⟩;cases hf
 | cons f fs ih =>
  rintro⟨g,hg,hgk⟩
  unfold unf
  by_cases h:f.nm=k
  ·have h1:(if upd env k c f.nm=none then 1 else 0)=0:=by unfold upd;rw[Z2 h];simp
   have h2:(if env f.nm=none then 1 else 0)=1:=by rw[h,hk];simp
   have h3:=Zbt env k c fs
   omega
  have h4:∃f∈fs,f.nm=k:=by
   rcases ZR.1 hg with rfl|hg
   ·exact absurd hgk h
   exact⟨g,hg,hgk⟩
  have h5:=ih h4
  have:(if upd env k c f.nm=none then 1 else 0)=(if env f.nm=none then 1 else 0):=by
   unfold upd;rw[Z1 h]
  omega
theorem ZbL (env:Env):∀fs:List FL,unf env fs≤fs.length:=by
 intro fs
 induction fs with
 | nil=>exact Zc _
 | cons f fs ih=>unfold unf;rw[Zp];split<;>omega
inductive GrE (YX:Env) (flows:List FL):Env→Prop where
 | base:GrE YX flows YX
 | step {env:Env} {f:FL} {p q:Int}:GrE YX flows env→f∈flows→env f.nm=none→Qd env f.e=.ok p q→GrE YX flows (upd env f.nm (p,q))
structure FG (YX:Env) (n0:Nat) (flows:List FL) (env:Env) (L:List (ByteArray × Value)):Prop where
 gr:GrE YX flows env
 ext:Za2 YX env
 rt:RtE env
 cnt:L.length+unf env flows≤n0+flows.length
theorem FG.put {YX:Env} {n0:Nat} {flows:List FL} {env:Env} {L:List (ByteArray × Value)} (h:FG YX n0 flows env L) {i:Nat} (hi:i<flows.length) (hn:env flows[i].nm=none) (hg:Y0 flows[i].nm L=none) {c:Int × Int} (ht:Qd env flows[i].e=.ok c.1 c.2) (hc:clock.Yz c.1 c.2=true) (v:Value) :
  FG YX n0 flows (upd env flows[i].nm c) (Jc flows[i].nm v L):=by
 refine⟨.step h.gr (Zi hi) hn ht,fun nm d hd=>?_,fun nm d hd=>?_,?_⟩
 ·unfold upd
  have:=h.ext nm d hd
  by_cases he:nm=flows[i].nm
  ·rw[he,hn] at this;cases this
  rw[Z1 he];exact this
 ·unfold upd at hd
  by_cases he:nm=flows[i].nm
  ·rw[Z2 he] at hd;injection hd with hd;rw[←hd];exact hc
  rw[Z1 he] at hd;exact h.rt nm d hd
 rw[yi _ _ _ hg]
 have:=uQ env flows[i].nm c hn flows ⟨_,Zi hi,rfl⟩
 have:=h.cnt
 omega
def Zdu (W0 w:World) (mb:Nat) (L0:List (ByteArray × Value)) (YX:Env) (flows:List FL) (v:Value) (wr:World):Prop :=
 ∃(b:Bool) (env:Env) (L:List (ByteArray × Value)),v=.bool b∧FW W0 w wr mb L env∧FG YX L0.length flows env L
def InG (W0 w:World) (mb:Nat) (L0:List (ByteArray × Value)) (YX:Env) (flows:List FL) (n1:Nat) (v6 v15:Value) (wr:World):Prop :=
 ∃(i:Nat) (b:Bool) (env:Env) (L:List (ByteArray × Value)),v15=.int .i64 (i:Int)∧v6=.bool b∧i≤flows.length∧FW W0 w wr mb L env∧FG YX L0.length flows env L∧n1+(isT (.bool b))≤L.length
def ZcM (YX:Env) (flows:List FL) (mb:Nat) (w:World) (x:Ending) (w':World):Prop :=
 ((∃a e,e≠0∧x=.returned (.tuple #[.int .i64 a,.int .i64 e]))∨(x=VJ∧∃L env,YG w' mb L∧Xy L env∧RtE env∧Za2 YX env∧GrE YX flows env))∧Upon mb w w'
theorem kn {W0 w:World} (flows:List FL) (af:Option Addr) (cf mb:Nat) (L0:List (ByteArray × Value)) (YX:Env) (hW:Below W0.heap.size W0 w) (hmb:W0.heap.size≤mb) (hr:Row FlC 8 W0 flows af) (hc1:flows.length≤cf) (hc2:cf≤9223372036854775807)
  (hM:YG w mb L0) (hE:Xy L0 YX) (hR0:RtE YX) :
  Calls Tryz.prog 49 #[.map (some mb),.slice af flows.length cf] w (ZcM YX flows mb w):=by
 have HW:=hid hW
 have HR:=hid hr
 have HFW0:=hid (show FW W0 w w mb L0 YX from ⟨Upon.refl _ _,hM,hE⟩)
 have HFG0:=hid (show FG YX L0.length flows YX L0 from ⟨.base,fun _ _ h=>h,hR0,by have:=ZbL YX flows;omega⟩)
 have HLT:=hM.lt
 have hfl64:flows.length≤9223372036854775807:=Zm hc1 hc2
 clear hW hr hM hE hR0
 go_enter Tryz.func49,Tryz.ntmps49
 go_wp2
 go_loopw [6] (fun v wr=>Hid (Zdu W0 w mb L0 YX flows v wr)) (fun v wr=>L0.length+flows.length+1-zS wr mb+isT v)
 case atStart=>exact⟨true,YX,L0,rfl,HFW0.out,HFG0.out⟩
 obtain⟨b,env,L,rfl,hfw,hfg⟩:=hrel.out
 clear hrel
 have hmz:zS wr mb=L.length:=hfw.map.size
 have hcnt:=hfg.cnt
 have HFA:=hid hfw
 have HGA:=hid hfg
 clear hfw hfg
 cases b with
 | false =>
  go_wp2
  go_ret2
  exact⟨.inr ⟨rfl,L,env,HFA.out.map,HFA.out.env,HGA.out.rt,HGA.out.ext,HGA.out.gr⟩,HFA.out.upon⟩
 | true =>
  obtain⟨n1,hn1⟩:∃n1,L.length=n1:=⟨_,rfl⟩
  rw[hn1] at hmz hcnt
  have HN1:=hid hn1
  clear hn1
  obtain⟨wo,hwo⟩:∃wo,wo=wr:=⟨_,rfl⟩
  go_wp2
  go_loopw [6,15] (fun v6 v15 wr=>Hid (InG W0 w mb L0 YX flows n1 v6 v15 wr)) (fun _ i _=>flows.length-(intOf i).toNat)
  case atStart=>exact⟨0,false,env,L,rfl,rfl,Zk _,HFA.out,HGA.out,by have:=HN1.out;simp only[isT];omega⟩
  clear HFA HGA HN1
  obtain⟨i,b,env,L,rfl,rfl,hi,hfw,hfg,hln⟩:=hrel.out
  clear hrel
  have HFW:=hid hfw
  have HFG:=hid hfg
  have HLN:=hid hln
  have hmz2:zS wr mb=L.length:=hfw.map.size
  have hsW:w.heap.size≤wr.heap.size:=hfw.upon.size
  have hmlt:=hfw.map.lt
  clear hfg
  by_cases hlt:i<flows.length
  ·have hrow:=HR.out.below JU (HW.out.trans (HFW.out.upon.below HW.out.size hmb))
   obtain⟨bb,oo,rfl,hbb,hfl⟩:=hrow.at hlt
   have hput:=HFG.out.put hlt
   obtain⟨f,hf⟩:∃f,flows[i]=f:=⟨_,rfl⟩
   rw[hf] at hfl hput
   obtain⟨nm,⟨k1,nm1,n1',d1,args1,a1⟩,fa⟩:=f
   obtain⟨ad1,cap1,x0,x1,x2,x3,x4,x5,x6,x7,hae,hfn⟩:=hfl.cells
   simp only at hput hae
   have hie:(i:Int)<(flows.length:Int):=oq
   cases hen:env nm with
   | some c =>
    obtain⟨c1,c2⟩:=c
    have HG:=hid (show Y0 nm L=some (.agg #[.int .i64 c1,.int .i64 c2]) by rw[hfw.env nm,hen];rfl)
    clear hfw hrow hae hen hput hln
    go_wp2_with (at_lookup;refine Xz Xc _ rfl _ _ rfl mb L nm _ rfl rfl (HFW.out.map.below bq) HG.out ?_)
    refine⟨⟨i+1,b,env,L,by go_num,rfl,oq,⟨(by repeat (first|(with_reducible exact Upon.refl _ _)|((with_reducible refine Upon.setAt ?_ ?_ _);(rotate_left;focus (first|exact Or.inl rfl|omega|(simp;done)|(simp;omega))))|(with_reducible refine Upon.alloc ?_ _)|(with_reducible refine Upon.drewN ?_ _)|(with_reducible refine Upon.drew ?_)|(with_reducible refine Upon.trans ?_ (Upon.of_below hb2))|(with_reducible refine Upon.trans ?_ HFW.out.upon))),HFW.out.map.below bq,HFW.out.env⟩,HFG.out,HLN.out⟩,by simp[intOf];omega⟩
   | none =>
    have hgn:Y0 nm L=none:=by rw[hfw.env nm,hen];rfl
    have HG:=hid hgn
    have HPUT:=hid (fun(c:Int × Int) (ht) (hc:clock.Yz c.1 c.2=true) (v:Value)=>hput hen hgn (c:=c) ht hc v)
    have HC:=hid (KR hfw.env ⟨k1,nm1,n1',d1,args1,a1⟩)
    have HE:=hid hae
    have hgd:=VE env ⟨k1,nm1,n1',d1,args1,a1⟩
    have hrt:=fun p f=>xu (e:=⟨k1,nm1,n1',d1,args1,a1⟩) (p:=p) (f:=f) HFG.out.rt
    unfold QC at HC
    simp only at HC
    clear hfw hrow hae hen hgn hput hln
    generalize htt:Qd env ⟨k1,nm1,n1',d1,args1,a1⟩=t at hgd hrt HC
    have HTT:=hid htt
    clear htt
    cases t with
    | unk =>
     simp only[TT.v] at HC
     clear hgd hrt
     go_wp2_with (first|(at_lookup;refine Y3 Xc _ rfl _ _ rfl mb L nm rfl rfl (HFW.out.map.below bq) HG.out ?_)|(go_at_call 89;(with_reducible refine(HC.out _ _ _ _ (HE.out.below bq) (HFW.out.map.below bq)).mono ?_);rintro x w2 ⟨rfl,hb2⟩;obtain⟨hc2,hf2⟩:=Yu hb2;have a2:wr.heap.size<w2.heap.size:=Yr hb2 oq;have a3:wr.heap.size+1<w2.heap.size:=Yr hb2 oq))
     refine⟨⟨i+1,b,env,L,by go_num,rfl,oq,⟨(by repeat (first|(with_reducible exact Upon.refl _ _)|((with_reducible refine Upon.setAt ?_ ?_ _);(rotate_left;focus (first|exact Or.inl rfl|omega|(simp;done)|(simp;omega))))|(with_reducible refine Upon.alloc ?_ _)|(with_reducible refine Upon.drewN ?_ _)|(with_reducible refine Upon.drew ?_)|(with_reducible refine Upon.trans ?_ (Upon.of_below hb2))|(with_reducible refine Upon.trans ?_ HFW.out.upon))),HFW.out.map.below bq,HFW.out.env⟩,HFG.out,HLN.out⟩,by simp[intOf];omega⟩
    | bad ab eb =>
     simp only[TT.v] at HC
     have heb:(eb == 0)=false:=ZY.2 hgd
     clear hrt
     go_wp2_with (first|(at_lookup;refine Y3 Xc _ rfl _ _ rfl mb L nm rfl rfl (HFW.out.map.below bq) HG.out ?_)|(go_at_call 89;(with_reducible refine(HC.out _ _ _ _ (HE.out.below bq) (HFW.out.map.below bq)).mono ?_);rintro x w2 ⟨rfl,hb2⟩;obtain⟨hc2,hf2⟩:=Yu hb2;have a2:wr.heap.size<w2.heap.size:=Yr hb2 oq;have a3:wr.heap.size+1<w2.heap.size:=Yr hb2 oq))
     go_quiet (fail)
     go_wp2
     go_ret2
     exact⟨.inl ⟨ab,eb,hgd,rfl⟩,(by repeat (first|(with_reducible exact Upon.refl _ _)|((with_reducible refine Upon.setAt ?_ ?_ _);(rotate_left;focus (first|exact Or.inl rfl|omega|(simp;done)|(simp;omega))))|(with_reducible refine Upon.alloc ?_ _)|(with_reducible refine Upon.drewN ?_ _)|(with_reducible refine Upon.drew ?_)|(with_reducible refine Upon.trans ?_ (Upon.of_below hb2))|(with_reducible refine Upon.trans ?_ HFW.out.upon)))⟩
    | ok p q =>
     simp only[TT.v] at HC
     have HRT:=hid (hrt p q rfl)
     clear hgd hrt
     go_wp2_with (first|(at_lookup;refine Y3 Xc _ rfl _ _ rfl mb L nm rfl rfl (HFW.out.map.below bq) HG.out ?_)|(go_at_call 89;(with_reducible refine(HC.out _ _ _ _ (HE.out.below bq) (HFW.out.map.below bq)).mono ?_);rintro x w2 ⟨rfl,hb2⟩;obtain⟨hc2,hf2⟩:=Yu hb2;have a2:wr.heap.size<w2.heap.size:=Yr hb2 oq;have a3:wr.heap.size+1<w2.heap.size:=Yr hb2 oq)|(at_mapUpdate;refine Xe Xc _ rfl _ _ _ rfl mb L nm (cvv (p,q)) rfl rfl rfl (HFW.out.map.below bq) ?_;intro arr clock hm2))
     refine⟨?_,by simp[intOf];omega⟩
     refine⟨i+1,true,upd env nm (p,q),_,by go_num,rfl,oq,⟨YF (by repeat (first|(with_reducible exact Upon.refl _ _)|((with_reducible refine Upon.setAt ?_ ?_ _);(rotate_left;focus (first|exact Or.inl rfl|omega|(simp;done)|(simp;omega))))|(with_reducible refine Upon.alloc ?_ _)|(with_reducible refine Upon.drewN ?_ _)|(with_reducible refine Upon.drew ?_)|(with_reducible refine Upon.trans ?_ (Upon.of_below hb2))|(with_reducible refine Upon.trans ?_ HFW.out.upon))) _,hm2,HFW.out.env.put nm (p,q)⟩,HPUT.out (p,q) HTT.out HRT.out _,?_⟩
     rw[yi _ _ _ HG.out]
     have:=HLN.out
     simp only[isT]
     omega
  have hcn:=HFG.out.cnt
  clear hfw
  go_wp2
  refine⟨⟨b,env,L,rfl,HFW.out,HFG.out⟩,?_⟩
  cases b<;>simp only[isT] at hln ⊢<;>omega
def zt (x:Ending):Prop:=∃a e,e≠0∧x=.returned (.tuple #[.int .i64 a,.int .i64 e])
def FdS (env:Env) (f:FL):Prop:=∃c,env f.nm=some c
def ZbI (w:World) (flows:List FL) (S:FL→Prop) (v:Value) (wr:World):Prop:=∃i:Nat,v=.int .i64 (i:Int)∧i≤flows.length∧(∀j (h:j<flows.length),j<i→S flows[j])∧Below w.heap.size w wr
theorem EO {flows:List FL} {S:FL→Prop} {i:Nat} (h:∀j (hj:j<flows.length),j<i→S flows[j]) (hi:∀hj:i<flows.length,S flows[i]):∀j (hj:j<flows.length),j<i+1→S flows[j]:=by
 intro j hj hji
 by_cases h1:j<i
 ·exact h j hj h1
 have:j=i:=oq
 subst this;exact hi hj
theorem zW {flows:List FL} {S:FL→Prop} {i:Nat} (h:∀j (hj:j<flows.length),j<i→S flows[j]) (hi:flows.length≤i):∀f∈flows,S f:=by
 intro f hf
 obtain⟨j,hj,rfl⟩:=Yl hf
 exact h j hj oq
theorem zF {w:World} (flows:List FL) (af:Option Addr) (cf mb:Nat) (L:List (ByteArray × Value)) (env:Env) (hr:Row FlC 8 w flows af) (hc1:flows.length≤cf) (hc2:cf≤9223372036854775807)
  (hM:YG w mb L) (hE:Xy L env) :
  Calls Tryz.prog 50 #[.map (some mb),.slice af flows.length cf] w fun x w'=>(zt x∨(x=VJ∧∀f∈flows,FdS env f))∧Below w.heap.size w w':=by
 have HR:=hid hr
 have HM:=hid hM
 have hfl64:flows.length≤9223372036854775807:=Zm hc1 hc2
 clear hr hM
 go_enter Tryz.func50,Tryz.ntmps50
 go_wp2
 go_loopw [12] (fun v wr=>Hid (ZbI w flows (FdS env) v wr)) (fun i _=>flows.length-(intOf i).toNat)
 case atStart=>exact⟨0,rfl,Zk _,fun j hj h=>absurd h oq,bq⟩
 obtain⟨i,rfl,hi,hS,hbel⟩:=hrel.out
 clear hrel
 have HBEL:=hid hbel
 have HS:=hid hS
 have hsW:=hbel.size
 clear hS
 by_cases hlt:i<flows.length
 ·have hrow:=HR.out.below JU hbel
  obtain⟨bb,oo,rfl,hbb,hfl⟩:=hrow.at hlt
  have HNX:=hid (fun h:FdS env flows[i]=>EO (S:=FdS env) HS.out (fun _=>h))
  obtain⟨f,hf⟩:∃f,flows[i]=f:=⟨_,rfl⟩
  rw[hf] at hfl HNX
  obtain⟨nm,⟨k1,nm1,n1,d1,args1,a1⟩,fa⟩:=f
  obtain⟨ad1,cap1,x0,x1,x2,x3,x4,x5,x6,x7,hae,hfn⟩:=hfl.cells
  try simp only at HNX
  have hie:(i:Int)<(flows.length:Int):=oq
  cases hc:env nm with
  | some c =>
   obtain⟨c1,c2⟩:=c
   have HG:=hid (show Y0 nm L=some (.agg #[.int .i64 c1,.int .i64 c2]) by rw[hE nm,hc];rfl)
   have HC:=hid (HNX.out (show FdS env _ from ⟨_,hc⟩))
   clear hbel hrow hae hc HNX
   go_wp2_with (at_lookup;refine Xz Xc _ rfl _ _ rfl mb L nm _ rfl rfl (HM.out.below bq) HG.out ?_)
   refine⟨⟨i+1,by go_num,oq,HC.out,bq⟩,by simp[intOf];omega⟩
  | none =>
   have HG:=hid (show Y0 nm L=none by rw[hE nm,hc];rfl)
   clear hbel hrow hae hc HNX
   go_wp2_with (at_lookup;refine Y3 Xc _ rfl _ _ rfl mb L nm rfl rfl (HM.out.below bq) HG.out ?_)
   go_ret2
   exact⟨.inl ⟨fa,6,by decide,rfl⟩,bq⟩
 go_wp2
 go_ret2
 exact⟨.inr ⟨rfl,zW (S:=FdS env) (i:=i) HS.out oq⟩,HBEL.out⟩
def FcS (env:Env) (f:FL):Prop:=∃p q,Qd env f.e=.ok p q∧env f.nm=some (p,q)
theorem EZ {w:World} (flows:List FL) (af:Option Addr) (cf mb:Nat) (L:List (ByteArray × Value)) (env:Env) (hr:Row FlC 8 w flows af) (hc1:flows.length≤cf) (hc2:cf≤9223372036854775807)
  (hM:YG w mb L) (hE:Xy L env) (hA:∀f∈flows,∃c,env f.nm=some c) (hRt:RtE env) :
  Calls Tryz.prog 52 #[.map (some mb),.slice af flows.length cf] w fun x w'=>(zt x∨(x=VJ∧∀f∈flows,FcS env f))∧Below w.heap.size w w':=by
 have HR:=hid hr
 have HM:=hid hM
 have HA:=hid hA
 have HRT:=hid hRt
 have hfl64:flows.length≤9223372036854775807:=Zm hc1 hc2
 clear hr hM hA hRt
 go_enter Tryz.func52,Tryz.ntmps52
 go_wp2
 go_loopw [10] (fun v wr=>Hid (ZbI w flows (FcS env) v wr)) (fun i _=>flows.length-(intOf i).toNat)
 case atStart=>exact⟨0,rfl,Zk _,fun j hj h=>absurd h oq,bq⟩
 obtain⟨i,rfl,hi,hS,hbel⟩:=hrel.out
 clear hrel
 have HBEL:=hid hbel
 have HS:=hid hS
 have hsW:=hbel.size
 clear hS
 by_cases hlt:i<flows.length
 ·have hrow:=HR.out.below JU hbel
  obtain⟨bb,oo,rfl,hbb,hfl⟩:=hrow.at hlt
  obtain⟨c,hc⟩:=HA.out flows[i] (Zi hlt)
  have HNX:=hid (fun h:FcS env flows[i]=>EO (S:=FcS env) HS.out (fun _=>h))
  obtain⟨f,hf⟩:∃f,flows[i]=f:=⟨_,rfl⟩
  rw[hf] at hfl hc HNX
  obtain⟨nm,⟨k1,nm1,n1,d1,args1,a1⟩,fa⟩:=f
  obtain⟨ad1,cap1,x0,x1,x2,x3,x4,x5,x6,x7,hae,hfn⟩:=hfl.cells
  simp only at hc
  obtain⟨c1,c2⟩:=c
  have hrt:=clock.Xd.1 (HRT.out nm (c1,c2) hc)
  simp only at hrt
  have hg:Y0 nm L=some (.agg #[.int .i64 c1,.int .i64 c2]):=by rw[hE nm,hc];rfl
  have HG:=hid hg
  have hMr:=HM.out.below hbel
  have hl1:=Jz (w:=(wr.alloc (Obj.cells #[.string nm,.int .i64 k1,.string nm1,.int .i64 n1,.int .i64 d1,.slice ad1 args1.len cap1,.int .i64 a1,.int .i64 fa] 111)).drew) (hMr.below bq) hg
  have HC:=hid (KR hE ⟨k1,nm1,n1,d1,args1,a1⟩)
  have HE:=hid hae
  unfold QC at HC
  simp only at HC
  have hFC:∀p q,Qd env ⟨k1,nm1,n1,d1,args1,a1⟩=.ok p q→(p=c1∧q=c2)→FcS env ⟨nm,⟨k1,nm1,n1,d1,args1,a1⟩,fa⟩:=fun p q h1 h2=>⟨p,q,h1,by rw[h2.1,h2.2];exact hc⟩
  have hie:(i:Int)<(flows.length:Int):=oq
  have HMR:=hid hMr
  clear hbel hrow hae hc hg hMr
  generalize htt:Qd env ⟨k1,nm1,n1,d1,args1,a1⟩=t at HC hFC
  cases t with
  | unk =>
   simp only[TT.v] at HC
   have hfd:=fun w=>VI w 0 0 0 0 false
   have hne:¬(0:Int)=c1:=oq
   clear hFC HNX htt hrt
   go_wp2
   go_region_with (go_at_call 89;(with_reducible refine(HC.out _ _ _ _ (HE.out.below bq) (HMR.out.below bq)).mono ?_);rintro x w2 ⟨rfl,hb2⟩;obtain⟨hc2,hf2⟩:=Yu hb2;have a2:wr.heap.size<w2.heap.size:=Yr hb2 oq;have hl2:=Jz (w:=w2) (HMR.out.below bq) HG.out)
   all_goals go_wp2
   all_goals (go_ret2;exact⟨.inl ⟨fa,5,by decide,rfl⟩,bq⟩)
  | bad ab eb =>
   simp only[TT.v] at HC
   have hfd:=fun w=>VI w 0 0 ab eb false
   have hne:¬(0:Int)=c1:=oq
   clear hFC HNX htt hrt
   go_wp2
   go_region_with (go_at_call 89;(with_reducible refine(HC.out _ _ _ _ (HE.out.below bq) (HMR.out.below bq)).mono ?_);rintro x w2 ⟨rfl,hb2⟩;obtain⟨hc2,hf2⟩:=Yu hb2;have a2:wr.heap.size<w2.heap.size:=Yr hb2 oq;have hl2:=Jz (w:=w2) (HMR.out.below bq) HG.out)
   all_goals go_wp2
   all_goals (go_ret2;exact⟨.inl ⟨fa,5,by decide,rfl⟩,bq⟩)
  | ok p q =>
   simp only[TT.v] at HC
   have hfd:=fun w=>VI w p q 0 0 true
   by_cases h1:p=c1
   ·by_cases h2:q=c2
    ·have HN:=hid (HNX.out (hFC p q rfl ⟨h1,h2⟩))
     subst h1;subst h2
     clear hFC HNX htt hrt
     go_wp2
     go_region_with (go_at_call 89;(with_reducible refine(HC.out _ _ _ _ (HE.out.below bq) (HMR.out.below bq)).mono ?_);rintro x w2 ⟨rfl,hb2⟩;obtain⟨hc2,hf2⟩:=Yu hb2;have a2:wr.heap.size<w2.heap.size:=Yr hb2 oq;have hl2:=Jz (w:=w2) (HMR.out.below bq) HG.out)
     all_goals go_wp2
     all_goals refine⟨⟨i+1,by go_num,oq,HN.out,bq⟩,by simp[intOf];omega⟩
    subst h1
    clear hFC HNX htt hrt
    go_wp2
    go_region_with (go_at_call 89;(with_reducible refine(HC.out _ _ _ _ (HE.out.below bq) (HMR.out.below bq)).mono ?_);rintro x w2 ⟨rfl,hb2⟩;obtain⟨hc2,hf2⟩:=Yu hb2;have a2:wr.heap.size<w2.heap.size:=Yr hb2 oq;have hl2:=Jz (w:=w2) (HMR.out.below bq) HG.out)
    all_goals go_wp2
    all_goals (go_ret2;exact⟨.inl ⟨fa,5,by decide,rfl⟩,bq⟩)
   clear hFC HNX htt hrt
   go_wp2
   go_region_with (go_at_call 89;(with_reducible refine(HC.out _ _ _ _ (HE.out.below bq) (HMR.out.below bq)).mono ?_);rintro x w2 ⟨rfl,hb2⟩;obtain⟨hc2,hf2⟩:=Yu hb2;have a2:wr.heap.size<w2.heap.size:=Yr hb2 oq;have hl2:=Jz (w:=w2) (HMR.out.below bq) HG.out)
   all_goals go_wp2
   all_goals (go_ret2;exact⟨.inl ⟨fa,5,by decide,rfl⟩,bq⟩)
 go_wp2
 go_ret2
 exact⟨.inr ⟨rfl,zW (S:=FcS env) (i:=i) HS.out oq⟩,HBEL.out⟩
theorem Zc8:∀(l:List IN) (e:Env),RtE e→(∀x∈l,clock.Yz x.per x.ph=true)→RtE (UT l e):=by
 intro l
 induction l with
 | nil=>intro e h _;exact h
 | cons x l ih =>
  intro e h hx
  refine ih _ (fun nm c hc=>?_) (fun y hy=>hx y (List.mem_cons_of_mem _ hy))
  unfold upd at hc
  by_cases hn:nm=x.nm
  ·rw[Z2 hn] at hc;injection hc with hc;rw[←hc];exact hx x List.mem_cons_self
  rw[Z1 hn] at hc;exact h nm c hc
theorem Za8 {ins:List IN} (h:∀x∈ins,clock.Yz x.per x.ph=true):RtE (YX ins):=Zc8 ins _ (fun nm c hc=>by cases hc) h
theorem GrE.trans {a:Env} {flows:List FL} {b c:Env} (h:GrE a flows b) (k:GrE b flows c):GrE a flows c:=by
 induction k with
 | base=>exact h
 | step _ h1 h2 h3 ih=>exact .step ih h1 h2 h3
structure qD (p:PG) (env:Env):Prop where
 rt:RtE env
 ext:Za2 (YX p.ins) env
 gr:GrE (YX p.ins) p.flows env
 calls:Je env p.flows=true
 flows:∀f∈p.flows,FcS env f
def Zcm (w:World) (p:PG) (x:Ending) (w':World):Prop :=
 ((∃a e,e≠0∧x=.returned (.tuple #[.slice none 0 0,.int .i64 a,.int .i64 e]))∨∃v env,x=.returned (.tuple #[v,.int .i64 0,.int .i64 0])∧qD p env∧ZbY w' v (p.flows.map (fun f=>Jw env f.nm)))∧Below w.heap.size w w'
def L2G (w W:World) (mb:Nat) (p:PG) (v:Value) (wr:World):Prop :=
 ∃(j:Nat) (env:Env) (L:List (ByteArray × Value)),v=.int .i64 (j:Int)∧j≤4∧CW w W wr mb∧YG wr mb L∧Xy L env∧RtE env∧Za2 (YX p.ins) env∧GrE (YX p.ins) p.flows env∧(2≤j→∀f∈p.flows,∃c,env f.nm=some c)∧(3≤j→Je env p.flows=true)∧(4≤j→∀f∈p.flows,FcS env f)
theorem UH {x:Ending} (h:zt x):∃a e,e≠0∧(e == 0)=false∧x=.returned (.tuple #[.int .i64 a,.int .i64 e]):=by
 obtain⟨a,e,h1,h2⟩:=h
 exact⟨a,e,h1,ZY.2 h1,h2⟩
theorem Gj {w:World} (p:PG) (an ai af ao:Option Addr) (cn ci cf co:Nat) (hp:AP w p an ai af ao cn ci cf co) (hs:Ea p.nodes+Gl p.flows≤8000) (hl:p.flows.length≤1000) (hI:∀x∈p.ins,clock.Yz x.per x.ph=true) :
  Calls Tryz.prog 19 #[pv p an ai af ao cn ci cf co] w (Zcm w p):=by
 obtain⟨nodes,ins,flows,outs⟩:=p
 have hR0:=Za8 hI
 simp only at hs hl hR0
 have HFT:=hid (fun(w':World) (hb:Below w.heap.size w w')=>Q4 ⟨nodes,ins,flows,outs⟩ an ai af ao cn ci cf co (hp.below hb) hs)
 unfold pv at HFT
 simp only at HFT
 have HI:=hid hp.ins
 have HF:=hid hp.flows
 have hcap:=hp.caps
 simp only at hcap
 have hil:ins.length≤9223372036854775807:=oq
 have hfl:flows.length≤9223372036854775807:=oq
 have HR0:=hid hR0
 clear hp hI hR0
 unfold pv
 simp only
 have hmk:=fun w=>run_makeMap (P:=Tryz.prog) 118 w
 go_enter Tryz.func19,Tryz.ntmps19
 go_wp2_with (go_at_call 48;refine(HFT.out _ bq).mono ?_;rintro x w1 ⟨rfl,hb1⟩;obtain⟨hc1,hf1⟩:=Yu hb1;have b1:w.heap.size<w1.heap.size:=Yr hb1 oq)
 have HB1:=hid hb1
 have hpb0:(w1.alloc (.map #[] 0)).heap[w.heap.size]?=some (.cells #[.slice an nodes.length cn,.slice ai ins.length ci,.slice af flows.length cf,.slice ao outs.length co] 27 (0,0)):=(Za _ _ _ b1).trans ((hb1.block _ oq).trans (Yp w _))
 have HCW0:=hid (show CW w (w1.alloc (.map #[] 0)) (w1.alloc (.map #[] 0)) w1.heap.size from ⟨Upon.refl _ _,by simp;omega,bq,b1⟩)
 have HM0:=hid (YG.new w1)
 have HPB0:=hid hpb0
 generalize w1.alloc (.map #[] 0)=W1 at *
 obtain⟨mb,hmb⟩:∃mb,w1.heap.size=mb:=⟨_,rfl⟩
 rw[hmb] at b1 HCW0 HM0 ⊢
 clear hmb hc1 hf1 hb1 HB1 hpb0
 go_loopw [22] (fun v wr=>Hid (ZcF w W1 mb ins v wr)) (fun i _=>ins.length-(intOf i).toNat)
 case atStart=>exact⟨0,fun _=>none,[],rfl,Zk _,HCW0.out,HM0.out,gP,rfl⟩
 obtain⟨i,env,L,rfl,hi,hcw,hM,hE,hen⟩:=hrel.out
 clear hrel
 have HM:=hid hM
 have HCW:=hid hcw
 have HE:=hid hE
 have hlow:=hcw.low
 have hmlt:=hM.lt
 have hszr:=hlow.size
 have hpb:=(hcw.upon.block _ (Zb HPB0.out) oq).trans HPB0.out
 obtain⟨⟨p0,p1,p2,p3⟩,pf⟩:=Yq hpb
 have HPB:=hid hpb
 have hplt:=Zb hpb
 clear hcw hM hE hpb
 by_cases hlt:i<ins.length
 ·obtain⟨bb,oo,rfl,hbb0,hin0⟩:=HI.out.at hlt
  have hin:=hin0.later hlow hbb0
  rw[vv hlt] at hen
  obtain⟨f,hf⟩:∃f,ins[i]=f:=⟨_,rfl⟩
  rw[hf] at hin hen
  obtain⟨nm,per,ph,fa⟩:=f
  obtain⟨y0,y1,y2,y3,_⟩:=hin
  simp only at y0 y1 y2 y3
  have HEN:=hid (show UT (ins.drop (i+1)) (upd env nm (per,ph))=YX ins from hen)
  have hie:(i:Int)<(ins.length:Int):=oq
  have hbb:bb<wr.heap.size:=oq
  clear hin0 hen hlow
  go_wp2_with (at_mapUpdate;refine Xe Xc _ rfl _ _ _ rfl mb L nm (cvv (per,ph)) rfl rfl rfl (HM.out.below bq) ?_;intro arr clock hm2)
  refine⟨⟨i+1,upd env nm (per,ph),_,by go_num,oq,⟨HCW.out.upon.trans (YF ((Upon.refl _ _).alloc _) _),HCW.out.size,HCW.out.below,b1⟩,hm2,HE.out.put nm (per,ph),HEN.out⟩,by simp[intOf];omega⟩
 have hie:i=ins.length:=oq
 subst hie
 have he0:env=YX ins:=by rw[Yo] at hen;exact hen
 subst he0
 clear hen
 obtain⟨W2,hW2⟩:∃W2,wr.alloc (Obj.cells #[.func (.func 49) #[.map (some mb)] #[],.func (.func 50) #[.map (some mb)] #[],.func (.func 51) #[.map (some mb)] #[],.func (.func 52) #[.map (some mb)] #[]] 119)=W2:=⟨_,rfl⟩
 obtain⟨fb,hfb⟩:∃fb,wr.heap.size=fb:=⟨_,rfl⟩
 go_wp2
 try rw[hW2]
 have HFB:=hid (show W2.heap[fb]?=some _ from by rw[←hW2,←hfb];exact Yp wr _)
 have hW2s:W2.heap.size=fb+1:=by rw[←hW2,←hfb];simp
 have HPB2:=hid (show W2.heap[w.heap.size]?=some (.cells #[.slice an nodes.length cn,.slice ai ins.length ci,.slice af flows.length cf,.slice ao outs.length co] 27 (0,0)) from by rw[←hW2];exact(Za _ _ _ hplt).trans HPB.out)
 have HCW2:=hid (show CW w W2 W2 mb from ⟨Upon.refl _ _,oq,by rw[←hW2];exact hlow.alloc hszr _,b1⟩)
 have HM2:=hid (show YG W2 mb L from by rw[←hW2];exact HM.out.below bq)
 rw[hfb] at hmlt
 clear hW2 hfb hlow hszr hplt p0 p1 p2 p3 pf HPB HM HCW HPB0 HM0 HCW0
 go_loopw [45] (fun v wr=>Hid (L2G w W2 mb ⟨nodes,ins,flows,outs⟩ v wr)) (fun i _=>4-(intOf i).toNat)
 case atStart=>exact⟨0,YX ins,L,rfl,oq,HCW2.out,HM2.out,HE.out,HR0.out,fun _ _ h=>h,.base,fun h=>absurd h oq,fun h=>absurd h oq,fun h=>absurd h oq⟩
 obtain⟨j,env,L2,rfl,hj,hcw,hM,hE,hrt,hex,hgr,hj2,hj3,hj4⟩:=hrel.out
 clear hrel
 simp only at hex hgr hj2 hj3 hj4
 have HGR:=hid hgr
 have HRT:=hid hrt
 have HEX:=hid hex
 have hlow:=hcw.low
 have hszr:=hlow.size
 have hpb:=(hcw.upon.block _ (Zb HPB2.out) oq).trans HPB2.out
 have hfbk:=(hcw.upon.block _ (Zb HFB.out) oq).trans HFB.out
 obtain⟨⟨p0,p1,p2,p3⟩,pf⟩:=Yq hpb
 obtain⟨⟨q0,q1,q2,q3⟩,qf⟩:=Yq hfbk
 have HPB:=hid hpb
 have hrow:=HF.out.below JU hlow
 have HM:=hid hM
 have HE2:=hid hE
 have HCW:=hid hcw
 match j,hj with
 | 0,_ =>
  have HC:=hid (kn (W0:=w) (w:=wr) flows af cf mb L2 env hlow (Nat.le_of_lt b1) HF.out hcap.2.2.1.1 hcap.2.2.1.2 hM hE hrt)
  have HJ2:=hid hj2
  have HJ3:=hid hj3
  clear hcw hM hE hrow hpb hfbk hrt hex hj2 hj3 hj4 hlow
  go_wp2_with (go_at_call 49;refine HC.out.mono ?_;rintro x w3 ⟨hx3,hu3⟩;unfold VJ at hx3;rcases hx3 with hx3|⟨rfl,L3,env3,hM3,hE3,hR3,hX3,hG3⟩;obtain⟨ab,eb,heb,heb',rfl⟩:=UH hx3)
  all_goals first|(go_ret3;exact⟨.inl ⟨ab,eb,heb,rfl⟩,HCW.out.low.trans (hu3.below hszr (Nat.le_of_lt b1))⟩)|exact⟨⟨1,env3,L3,by go_num,oq,⟨HCW.out.upon.trans hu3,HCW.out.size,HCW.out.below,b1⟩,hM3,hE3,hR3,fun nm c h=>hX3 nm c (HEX.out nm c h),HGR.out.trans hG3,fun h=>absurd h oq,fun h=>absurd h oq,fun h=>absurd h oq⟩,by simp[intOf]⟩
 | 1,_ =>
  have HC:=hid (zF (w:=wr) flows af cf mb L2 env hrow hcap.2.2.1.1 hcap.2.2.1.2 hM hE)
  have HJ2:=hid hj2
  have HJ3:=hid hj3
  clear hcw hM hE hrow hpb hfbk hrt hex hj2 hj3 hj4 hlow
  go_wp2_with (go_at_call 50;refine HC.out.mono ?_;rintro x w3 ⟨hx3,hb3⟩;unfold VJ at hx3;rcases hx3 with hx3|⟨rfl,hall⟩;obtain⟨ab,eb,heb,heb',rfl⟩:=UH hx3)
  all_goals first|(go_ret3;exact⟨.inl ⟨ab,eb,heb,rfl⟩,HCW.out.low.trans (hb3.mono hszr)⟩)|exact⟨⟨2,env,L2,by go_num,oq,⟨HCW.out.upon.trans (Upon.of_below hb3),HCW.out.size,HCW.out.below,b1⟩,HM.out.below hb3,HE2.out,HRT.out,HEX.out,HGR.out,fun _=>hall,fun h=>absurd h oq,fun h=>absurd h oq⟩,by simp[intOf]⟩
 | 2,_ =>
  have HC:=hid (zD (w:=wr) flows af cf mb L2 env hrow hcap.2.2.1.1 hcap.2.2.1.2 hM hE)
  have HJ2:=hid (hj2 oq)
  clear hcw hM hE hrow hpb hfbk hrt hex hj2 hj3 hj4 hlow
  cases hck:Je env flows with
  | false =>
   rw[hck] at HC
   go_wp2_with (go_at_call 51;go_loud (refine HC.out.mono ?_;rintro x w3 ⟨⟨ab,eb,heb,rfl⟩,hb3⟩;have heb':(eb == 0)=false:=ZY.2 heb))
   go_ret3
   exact⟨.inl ⟨ab,eb,heb,rfl⟩,HCW.out.low.trans (hb3.mono hszr)⟩
  | true =>
   rw[hck] at HC
   go_wp2_with (go_at_call 51;go_loud (refine HC.out.mono ?_;rintro x w3 ⟨he,hb3⟩;obtain rfl:x=.returned (.tuple #[.int .i64 0,.int .i64 0]):=he))
   refine⟨⟨3,env,L2,by go_num,oq,⟨HCW.out.upon.trans (Upon.of_below hb3),HCW.out.size,HCW.out.below,b1⟩,HM.out.below hb3,HE2.out,HRT.out,HEX.out,HGR.out,fun _=>HJ2.out,fun _=>hck,fun h=>absurd h oq⟩,by simp[intOf]⟩
 | 3,_ =>
  have HC:=hid (EZ (w:=wr) flows af cf mb L2 env hrow hcap.2.2.1.1 hcap.2.2.1.2 hM hE (hj2 oq) hrt)
  have HJ2:=hid hj2
  have HJ3:=hid hj3
  clear hcw hM hE hrow hpb hfbk hrt hex hj2 hj3 hj4 hlow
  go_wp2_with (go_at_call 52;refine HC.out.mono ?_;rintro x w3 ⟨hx3,hb3⟩;unfold VJ at hx3;rcases hx3 with hx3|⟨rfl,hfc⟩;obtain⟨ab,eb,heb,heb',rfl⟩:=UH hx3)
  all_goals first|(go_ret3;exact⟨.inl ⟨ab,eb,heb,rfl⟩,HCW.out.low.trans (hb3.mono hszr)⟩)|exact⟨⟨4,env,L2,by go_num,oq,⟨HCW.out.upon.trans (Upon.of_below hb3),HCW.out.size,HCW.out.below,b1⟩,HM.out.below hb3,HE2.out,HRT.out,HEX.out,HGR.out,fun _=>HJ2.out oq,fun _=>HJ3.out oq,fun _=>hfc⟩,by simp[intOf]⟩
 | 4,_ =>
  have hhas:=hj2 oq
  have HHAS:=hid hhas
  have HCF:=hid (show qD ⟨nodes,ins,flows,outs⟩ env from ⟨hrt,hex,hgr,hj3 oq,hj4 oq⟩)
  obtain⟨W3,hW3⟩:∃W3,wr.alloc (.cells (madeCells #[.int .i64 0,.int .i64 0] (flows.length*2)) 62)=W3:=⟨_,rfl⟩
  obtain⟨b,hb⟩:∃b,wr.heap.size=b:=⟨_,rfl⟩
  have hplt:=Zb hpb
  have hmlt2:=hM.lt
  have hpb3:W3.heap[w.heap.size]?=some (.cells #[.slice an nodes.length cn,.slice ai ins.length ci,.slice af flows.length cf,.slice ao outs.length co] 27 (0,0)):=by rw[←hW3];exact(Za _ _ _ hplt).trans hpb
  obtain⟨⟨r0,r1,r2,r3⟩,rf⟩:=Yq hpb3
  clear hcw hM hE hrow hfbk hrt hex hj2 hj3 hj4 hhas
  go_wp2_with (at_make;refine uV _ rfl _ _ rfl flows.length rfl rfl hl ?_)
  try rw[hW3]
  try rw[hb]
  have hB3:W3.heap[b]?=some (.cells (madeCells #[.int .i64 0,.int .i64 0] (flows.length*2)) 62 (0,0)):=by rw[←hW3,←hb];exact Yp wr _
  have HB3:=hid hB3
  have hW3s:W3.heap.size=b+1:=by rw[←hW3,←hb];simp
  have hlow3:Below w.heap.size w W3:=by rw[←hW3];exact hlow.alloc hszr _
  have HLOW:=hid hlow3
  have HM3:=hid (show YG W3 mb L2 from by rw[←hW3];exact HM.out.below bq)
  rw[hb] at hmlt2 hplt hszr
  clear hW3 hb hlow3 hlow hB3 hpb hpb3 HM HPB HCW p0 p1 p2 p3 pf q0 q1 q2 q3 qf r0 r1 r2 r3 rf
  go_loopw [68] (fun v wr=>Hid (Zdd w W3 mb b env L2 flows v wr)) (fun i _=>flows.length-(intOf i).toNat)
  case atStart=>exact⟨0,_,rfl,Zk _,Upon.refl _ _,HB3.out,uU _,fun j h hj=>absurd hj oq⟩
  obtain⟨i,arr,rfl,hi,hup,hblk,hasz,hcells⟩:=hrel.out
  clear hrel
  have hlow:=HLOW.out.trans (hup.below oq (Nat.le_of_lt hplt))
  have hszr:=hlow.size
  have hszu:=hup.size
  have HUP:=hid hup
  have HBLK:=hid hblk
  have hca:=ER hblk
  have hM:=HM3.out.upon hup oq
  have HCE:=hid hcells
  by_cases hlt:i<flows.length
  ·obtain⟨bb,oo,rfl,hbb0,hfl0⟩:=HF.out.at hlt
   have hfl':=hfl0.later hlow hbb0
   obtain⟨c,hc⟩:=HHAS.out flows[i] (Zi hlt)
   obtain⟨f,hf⟩:∃f,flows[i]=f:=⟨_,rfl⟩
   have HF2:=hid hf
   rw[hf] at hfl' hc
   obtain⟨nm,⟨k1,nm1,n1,d1,args1,a1⟩,fa⟩:=f
   obtain⟨ad,cap,y0,y1,y2,y3,y4,y5,y6,y7,hae,hfn⟩:=hfl'.cells
   obtain⟨c1,c2⟩:=c
   have HG:=hid (show Y0 nm L2=some (.agg #[.int .i64 c1,.int .i64 c2]) by rw[HE2.out nm,hc];rfl)
   have hie:(i:Int)<(flows.length:Int):=oq
   have hbb:bb<wr.heap.size:=oq
   have hblt:b<wr.heap.size:=Zb hblk
   have z0:wr.cell? ⟨b,i*2,none⟩=some arr[i*2]:=by rw[(hca _).1];exact Ym oq
   have z1:wr.cell? ⟨b,i*2+1,none⟩=some arr[i*2+1]:=by rw[(hca _).1];exact Ym oq
   have zf0:=(hca (i*2)).2
   have zf1:=(hca (i*2+1)).2
   have HMr:=hid hM
   have HC:=hid hc
   clear hup hblk hcells hca hM hfl' hfl0 hf hc hae hfn hlow hbb0
   go_wp2_with (at_lookup;refine V3 Xc _ rfl _ _ rfl mb L2 nm _ rfl rfl (HMr.out.below bq) HG.out ?_)
   refine⟨⟨i+1,_,by go_num,oq,((HUP.out.setAt (.inl rfl) _).setAt (.inl rfl) _).alloc _,(Za _ _ _ (by simpa [World.setCell] using hblt)).trans (yQ (yQ HBLK.out (i*2) (.int .i64 c1)) (i*2+1) (.int .i64 c2)),by simpa using hasz,fun j hj hji=>?_⟩,by simp[intOf];omega⟩
   by_cases hjl:j<i
   ·have h:=HCE.out j hj hjl
    rw[Array.getElem?_setIfInBounds_ne oq,Array.getElem?_setIfInBounds_ne oq,Array.getElem?_setIfInBounds_ne oq,Array.getElem?_setIfInBounds_ne oq]
    exact h
   have hje:j=i:=oq
   subst hje
   have hk:Jw env flows[j].nm=(c1,c2):=by rw[HF2.out];unfold Jw;rw[HC.out];rfl
   rw[hk]
   rw[Array.getElem?_setIfInBounds_ne oq,Array.getElem?_setIfInBounds_self_of_lt oq,Array.getElem?_setIfInBounds_self_of_lt (by rw[Array.size_setIfInBounds];omega)]
   exact⟨rfl,rfl⟩
  have hie:i=flows.length:=oq
  subst hie
  clear hup hblk hcells hca hM
  go_wp2
  go_ret3
  refine⟨.inr ⟨_,env,rfl,HCF.out,b,by simp,Zb HBLK.out,fun j hj=>?_⟩,hlow⟩
  have hj':j<flows.length:=by simpa using hj
  have h:=HCE.out j hj' hj'
  have hca:=ER HBLK.out
  refine⟨(hca _).1.trans ?_,(hca _).1.trans ?_⟩
  ·rw[h.1];simp
  rw[h.2];simp
 | j+5,h=>exact absurd h oq
end Go.Proofs.YtgigilkpndhddaaGreatDoor.syn
