/-
  Parts of the proof: ChkG1, ChkG2, ChkG3.
-/
import Derived.Test.YtpjficjlfibibaaGreatDoorQ15
import Derived.Test.YtpjficjlfibibaaGreatDoorQ17
namespace Go.Proofs.YtpjficjlfibibaaGreatDoor.syn
open Go.RowKit
set_option linter.unusedVariables false
set_option linter.unusedSimpArgs false
theorem right_fin {p f:Int} (hp:1 ≤ p ∧ p ≤ 2000) (hf:0 ≤ f) (h:(clock.fin p f).2.2 = 0):clock.rightB (clock.fin p f).1 (clock.fin p f).2.1 = true:=by
 unfold clock.fin at h ⊢
 by_cases hl:f ≤ 2000
 ·rw [if_pos hl];exact clock.right_yes ⟨hp.1,hp.2,hf,hl⟩
 ·rw [if_neg hl] at h;cases h
theorem right_apply {p f k n d:Int} (h:(clock.applyP p f k n d).2.2 = 0):clock.rightB (clock.applyP p f k n d).1 (clock.applyP p f k n d).2.1 = true:=by
 unfold clock.applyP at h ⊢
 by_cases h0:clock.rightB p f = false ∨ k < 3 ∨ 8 < k
 ·rw [if_pos h0] at h;cases h
 ·rw [if_neg h0] at h ⊢
  have hr:clock.rightB p f = true:=by
   cases hb:clock.rightB p f with
   | true => rfl
   | false => exact absurd (Or.inl hb) h0
  have hb:=clock.right_iff.1 hr
  by_cases h1:clock.facB k n d = false
  ·rw [if_pos h1] at h;cases h
  ·rw [if_neg h1] at h ⊢
   have hfac:clock.facB k n d = true:=by
    cases hb:clock.facB k n d with
    | true => rfl
    | false => exact absurd hb h1
   by_cases h3:k = 3
   ·rw [if_pos h3] at h ⊢
    have hn:=clock.fac34 (.inl h3) hfac
    by_cases hz:p % n = 0
    ·rw [if_pos hz]
     have:=clock.quo_right hb.1 hb.2.1 hn.1 hz
     exact clock.right_yes ⟨this.1,this.2,hb.2.2.1,hb.2.2.2⟩
    ·rw [if_neg hz] at h;cases h
   ·rw [if_neg h3] at h ⊢
    by_cases h4:k = 4
    ·rw [if_pos h4] at h ⊢
     have hn:=clock.fac34 (.inr h4) hfac
     by_cases hz:p * n ≤ 2000
     ·rw [if_pos hz]
      exact clock.right_yes ⟨clock.mul_ge hb.1 hn.1,hz,hb.2.2.1,hb.2.2.2⟩
     ·rw [if_neg hz] at h;cases h
    ·rw [if_neg h4] at h ⊢
     by_cases h5:k = 5
     ·rw [if_pos h5] at h ⊢
      subst h5
      have hn:=clock.fac5 hfac
      by_cases hz:p * n % d = 0
      ·rw [if_pos hz] at h ⊢
       have h6:0 ≤ p * n:=Int.mul_nonneg oq hn.2.2.1
       have h7:0 ≤ p * n / d:=Int.ediv_nonneg h6 oq
       exact right_fin ⟨hb.1,hb.2.1⟩ oq h
      ·rw [if_neg hz] at h;cases h
     ·rw [if_neg h5] at h ⊢
      by_cases h6:k = 6
      ·rw [if_pos h6];exact hr
      ·rw [if_neg h6] at h ⊢
       by_cases h7:k = 7
       ·rw [if_pos h7] at h ⊢
        exact right_fin ⟨hb.1,hb.2.1⟩ oq h
       ·rw [if_neg h7] at h ⊢
        by_cases h8:p ≤ f
        ·rw [if_pos h8]
         show clock.rightB p (f - p) = true
         exact clock.right_yes ⟨hb.1,hb.2.1,by omega,by omega⟩
        ·rw [if_neg h8] at h;cases h
def RtE (env:Env):Prop:=∀ nm c,env nm = some c → clock.rightB c.1 c.2 = true
theorem tell1_right {env:Env} (h:RtE env) {k:Int} {nm:ByteArray} {n d a:Int} {s:TT} (hs:∀ p f,s = .ok p f → clock.rightB p f = true) {p f:Int} (ht:tell1 env k nm n d a s = .ok p f):clock.rightB p f = true:=by
 unfold tell1 at ht
 by_cases hk:k = 1
 ·rw [if_pos hk] at ht
  cases he:env nm with
  | none => rw [he] at ht;cases ht
  | some c =>
   rw [he] at ht
   injection ht with h1 h2
   rw [← h1,← h2];exact h nm c he
 ·rw [if_neg hk] at ht
  cases s with
  | unk => cases ht
  | bad a e => cases ht
  | ok p0 f0 =>
   simp only at ht
   by_cases hk2:k = 2
   ·rw [if_pos hk2] at ht
    exact hs p f ht
   ·rw [if_neg hk2] at ht
    by_cases h0:(clock.applyP p0 f0 k n d).2.2 = 0
    ·rw [if_pos h0] at ht
     injection ht with h1 h2
     rw [← h1,← h2];exact right_apply h0
    ·rw [if_neg h0] at ht;cases ht
theorem tellL_right {env:Env} (h:RtE env):∀ (l:PL) (p f:Int),tellL env l = .ok p f → clock.rightB p f = true:=by
 intro l
 induction l with
 | nil => intro p f ht;cases ht
 | cons k nm n d args a tl ih1 ih2 =>
  intro p f ht
  rw [tellL] at ht
  cases h1:tell1 env k nm n d a (tellL env args) with
  | unk => rw [h1] at ht;exact ih2 p f ht
  | bad ab eb => rw [h1] at ht;cases ht
  | ok p1 f1 =>
   rw [h1] at ht
   injection ht with e1 e2
   subst e1;subst e2
   exact tell1_right h ih1 h1
theorem tellE_right {env:Env} (h:RtE env) {e:PE} {p f:Int} (ht:tellE env e = .ok p f):clock.rightB p f = true:=tell1_right h (tellL_right h e.args) ht
def ExtE (a b:Env):Prop:=∀ nm c,a nm = some c → b nm = some c
def unf (env:Env):List FL → Nat
 | [] => 0
 | f :: fs => (if env f.nm = none then 1 else 0) + unf env fs
theorem unf_upd (env:Env) (k:ByteArray) (c:Int × Int):∀ fs:List FL,unf (upd env k c) fs ≤ unf env fs:=by
 intro fs
 induction fs with
 | nil => exact Nat.le_refl _
 | cons f fs ih =>
  unfold unf
  have:(if upd env k c f.nm = none then 1 else 0) ≤ (if env f.nm = none then 1 else 0):=by
   unfold upd
   by_cases h:f.nm = k
   ·rw [if_pos h];simp
   ·rw [if_neg h];exact Nat.le_refl _
  omega
theorem unf_found (env:Env) (k:ByteArray) (c:Int × Int) (hk:env k = none):∀ fs:List FL,(∃ f ∈ fs,f.nm = k) → unf (upd env k c) fs + 1 ≤ unf env fs:=by
 intro fs
 induction fs with
 | nil => rintro ⟨f,hf,_⟩;cases hf
 | cons f fs ih =>
  rintro ⟨g,hg,hgk⟩
  unfold unf
  by_cases h:f.nm = k
  ·have h1:(if upd env k c f.nm = none then 1 else 0) = 0:=by unfold upd;rw [if_pos h];simp
   have h2:(if env f.nm = none then 1 else 0) = 1:=by rw [h,hk];simp
   have h3:=unf_upd env k c fs
   omega
  ·have h4:∃ f ∈ fs,f.nm = k:=by
    rcases List.mem_cons.1 hg with rfl | hg
    ·exact absurd hgk h
    ·exact ⟨g,hg,hgk⟩
   have h5:=ih h4
   have:(if upd env k c f.nm = none then 1 else 0) = (if env f.nm = none then 1 else 0):=by
    unfold upd;rw [if_neg h]
   omega
theorem unf_le (env:Env):∀ fs:List FL,unf env fs ≤ fs.length:=by
 intro fs
 induction fs with
 | nil => exact Nat.le_refl _
 | cons f fs ih => unfold unf;rw [List.length_cons];split <;> omega
inductive GrE (env0:Env) (flows:List FL):Env → Prop where
 | base:GrE env0 flows env0
 | step {env:Env} {f:FL} {p q:Int}:GrE env0 flows env → f ∈ flows → env f.nm = none → tellE env f.e = .ok p q → GrE env0 flows (upd env f.nm (p,q))
structure FG (env0:Env) (n0:Nat) (flows:List FL) (env:Env) (L:List (ByteArray × Value)):Prop where
 gr:GrE env0 flows env
 ext:ExtE env0 env
 rt:RtE env
 cnt:L.length + unf env flows ≤ n0 + flows.length
theorem FG.put {env0:Env} {n0:Nat} {flows:List FL} {env:Env} {L:List (ByteArray × Value)} (h:FG env0 n0 flows env L) {i:Nat} (hi:i < flows.length) (hn:env flows[i].nm = none) (hg:getS flows[i].nm L = none) {c:Int × Int} (ht:tellE env flows[i].e = .ok c.1 c.2) (hc:clock.rightB c.1 c.2 = true) (v:Value) :
  FG env0 n0 flows (upd env flows[i].nm c) (putS flows[i].nm v L):=by
 refine ⟨.step h.gr (List.getElem_mem hi) hn ht,fun nm d hd => ?_,fun nm d hd => ?_,?_⟩
 ·unfold upd
  have:=h.ext nm d hd
  by_cases he:nm = flows[i].nm
  ·rw [he,hn] at this;cases this
  ·rw [if_neg he];exact this
 ·unfold upd at hd
  by_cases he:nm = flows[i].nm
  ·rw [if_pos he] at hd;injection hd with hd;rw [← hd];exact hc
  ·rw [if_neg he] at hd;exact h.rt nm d hd
 ·rw [putS_new _ _ _ hg]
  have:=unf_found env flows[i].nm c hn flows ⟨_,List.getElem_mem hi,rfl⟩
  have:=h.cnt
  omega
def OutG (W0 w:World) (mb:Nat) (L0:List (ByteArray × Value)) (env0:Env) (flows:List FL) (v:Value) (wr:World):Prop :=
 ∃ (b:Bool) (env:Env) (L:List (ByteArray × Value)),v = .bool b ∧ FW W0 w wr mb L env ∧ FG env0 L0.length flows env L
def InG (W0 w:World) (mb:Nat) (L0:List (ByteArray × Value)) (env0:Env) (flows:List FL) (n1:Nat) (v6 v15:Value) (wr:World):Prop :=
 ∃ (i:Nat) (b:Bool) (env:Env) (L:List (ByteArray × Value)),v15 = .int .i64 (i:Int) ∧ v6 = .bool b ∧ i ≤ flows.length ∧ FW W0 w wr mb L env ∧ FG env0 L0.length flows env L ∧ n1 + (isT (.bool b)) ≤ L.length
def FindG (env0:Env) (flows:List FL) (mb:Nat) (w:World) (x:Ending) (w':World):Prop :=
 ((∃ a e,e ≠ 0 ∧ x = .returned (.tuple #[.int .i64 a,.int .i64 e])) ∨ (x = OkPair ∧ ∃ L env,MapS w' mb L ∧ EnvIs L env ∧ RtE env ∧ ExtE env0 env ∧ GrE env0 flows env)) ∧ Upon mb w w'
set_option maxRecDepth 100000 in
set_option maxHeartbeats 4000000 in
theorem find_gen {W0 w:World} (flows:List FL) (af:Option Addr) (cf mb:Nat) (L0:List (ByteArray × Value)) (env0:Env) (hW:Below W0.heap.size W0 w) (hmb:W0.heap.size ≤ mb) (hr:Row FlC 8 W0 flows af) (hc1:flows.length ≤ cf) (hc2:cf ≤ 9223372036854775807)
  (hM:MapS w mb L0) (hE:EnvIs L0 env0) (hR0:RtE env0) :
  Calls Tryz.prog 45 #[.map (some mb),.slice af flows.length cf] w (FindG env0 flows mb w):=by
 have HW:=hid hW
 have HR:=hid hr
 have HFW0:=hid (show FW W0 w w mb L0 env0 from ⟨Upon.refl _ _,hM,hE⟩)
 have HFG0:=hid (show FG env0 L0.length flows env0 L0 from ⟨.base,fun _ _ h => h,hR0,by have:=unf_le env0 flows;omega⟩)
 have HLT:=hM.lt
 have hfl64:flows.length ≤ 9223372036854775807:=Nat.le_trans hc1 hc2
 clear hW hr hM hE hR0
 go_enter Tryz.func45,Tryz.ntmps45
 go_wp2
 go_loopw [6] (fun v wr => Hid (OutG W0 w mb L0 env0 flows v wr)) (fun v wr => L0.length + flows.length + 1 - mapsz wr mb + isT v)
 case atStart => exact ⟨true,env0,L0,rfl,HFW0.out,HFG0.out⟩
 case round =>
  obtain ⟨b,env,L,rfl,hfw,hfg⟩:=hrel.out
  clear hrel
  have hmz:mapsz wr mb = L.length:=hfw.map.size
  have hcnt:=hfg.cnt
  have HFA:=hid hfw
  have HGA:=hid hfg
  clear hfw hfg
  cases b with
  | false =>
   go_wp2
   go_ret2
   exact ⟨.inr ⟨rfl,L,env,HFA.out.map,HFA.out.env,HGA.out.rt,HGA.out.ext,HGA.out.gr⟩,HFA.out.upon⟩
  | true =>
   obtain ⟨n1,hn1⟩:∃ n1,L.length = n1:=⟨_,rfl⟩
   rw [hn1] at hmz hcnt
   have HN1:=hid hn1
   clear hn1
   obtain ⟨wo,hwo⟩:∃ wo,wo = wr:=⟨_,rfl⟩
   go_wp2
   go_loopw [6,15] (fun v6 v15 wr => Hid (InG W0 w mb L0 env0 flows n1 v6 v15 wr)) (fun _ i _ => flows.length - (intOf i).toNat)
   case atStart => exact ⟨0,false,env,L,rfl,rfl,Nat.zero_le _,HFA.out,HGA.out,by have:=HN1.out;simp only [isT];omega⟩
   case round =>
    clear HFA HGA HN1
    obtain ⟨i,b,env,L,rfl,rfl,hi,hfw,hfg,hln⟩:=hrel.out
    clear hrel
    have HFW:=hid hfw
    have HFG:=hid hfg
    have HLN:=hid hln
    have hmz2:mapsz wr mb = L.length:=hfw.map.size
    have hsW:w.heap.size ≤ wr.heap.size:=hfw.upon.size
    have hmlt:=hfw.map.lt
    clear hfg
    by_cases hlt:i < flows.length
    ·have hrow:=HR.out.below flSta (HW.out.trans (HFW.out.upon.below HW.out.size hmb))
     obtain ⟨bb,oo,rfl,hbb,hfl⟩:=hrow.at hlt
     have hput:=HFG.out.put hlt
     obtain ⟨f,hf⟩:∃ f,flows[i] = f:=⟨_,rfl⟩
     rw [hf] at hfl hput
     obtain ⟨nm,⟨k1,nm1,n1',d1,args1,a1⟩,fa⟩:=f
     obtain ⟨ad1,cap1,x0,x1,x2,x3,x4,x5,x6,x7,hae,hfn⟩:=hfl.cells
     simp only at hput hae
     have hie:(i:Int) < (flows.length:Int):=by omega
     cases hen:env nm with
     | some c =>
      obtain ⟨c1,c2⟩:=c
      have HG:=hid (show getS nm L = some (.agg #[.int .i64 c1,.int .i64 c2]) by rw [hfw.env nm,hen];rfl)
      clear hfw hrow hae hen hput hln
      go_wp2_with (at_lookup;refine wpList_lookS_yes2 clocksMap _ rfl _ _ rfl mb L nm _ rfl rfl (HFW.out.map.below bq) HG.out ?_)
      refine ⟨⟨i + 1,b,env,L,by go_num,rfl,by omega,⟨(by repeat (first | (with_reducible exact Upon.refl _ _) | ((with_reducible refine Upon.setAt ?_ ?_ _);(rotate_left;focus (first | exact Or.inl rfl | omega | (simp;done) | (simp;omega)))) | (with_reducible refine Upon.alloc ?_ _) | (with_reducible refine Upon.drewN ?_ _) | (with_reducible refine Upon.drew ?_) | (with_reducible refine Upon.trans ?_ (Upon.of_below hb2)) | (with_reducible refine Upon.trans ?_ HFW.out.upon))),HFW.out.map.below bq,HFW.out.env⟩,HFG.out,HLN.out⟩,by simp [intOf];omega⟩
     | none =>
      have hgn:getS nm L = none:=by rw [hfw.env nm,hen];rfl
      have HG:=hid hgn
      have HPUT:=hid (fun (c:Int × Int) (ht) (hc:clock.rightB c.1 c.2 = true) (v:Value) => hput hen hgn (c:=c) ht hc v)
      have HC:=hid (tell_any hfw.env ⟨k1,nm1,n1',d1,args1,a1⟩)
      have HE:=hid hae
      have hgd:=tellE_good env ⟨k1,nm1,n1',d1,args1,a1⟩
      have hrt:=fun p f => tellE_right (e:=⟨k1,nm1,n1',d1,args1,a1⟩) (p:=p) (f:=f) HFG.out.rt
      unfold TellSaid at HC
      simp only at HC
      clear hfw hrow hae hen hgn hput hln
      generalize htt:tellE env ⟨k1,nm1,n1',d1,args1,a1⟩ = t at hgd hrt HC
      have HTT:=hid htt
      clear htt
      cases t with
      | unk =>
       simp only [TT.v] at HC
       clear hgd hrt
       go_wp2_with (first | (at_lookup;refine wpList_lookS_no2 clocksMap _ rfl _ _ rfl mb L nm rfl rfl (HFW.out.map.below bq) HG.out ?_) | (go_at_call 88;(with_reducible refine (HC.out _ _ _ _ (HE.out.below bq) (HFW.out.map.below bq)).mono ?_);rintro x w2 ⟨rfl,hb2⟩;obtain ⟨hc2,hf2⟩:=bcell hb2;have a2:wr.heap.size < w2.heap.size:=sz_of hb2 oq;have a3:wr.heap.size + 1 < w2.heap.size:=sz_of hb2 oq))
       refine ⟨⟨i + 1,b,env,L,by go_num,rfl,by omega,⟨(by repeat (first | (with_reducible exact Upon.refl _ _) | ((with_reducible refine Upon.setAt ?_ ?_ _);(rotate_left;focus (first | exact Or.inl rfl | omega | (simp;done) | (simp;omega)))) | (with_reducible refine Upon.alloc ?_ _) | (with_reducible refine Upon.drewN ?_ _) | (with_reducible refine Upon.drew ?_) | (with_reducible refine Upon.trans ?_ (Upon.of_below hb2)) | (with_reducible refine Upon.trans ?_ HFW.out.upon))),HFW.out.map.below bq,HFW.out.env⟩,HFG.out,HLN.out⟩,by simp [intOf];omega⟩
      | bad ab eb =>
       simp only [TT.v] at HC
       have heb:(eb == 0) = false:=beq_eq_false_iff_ne.2 hgd
       clear hrt
       go_wp2_with (first | (at_lookup;refine wpList_lookS_no2 clocksMap _ rfl _ _ rfl mb L nm rfl rfl (HFW.out.map.below bq) HG.out ?_) | (go_at_call 88;(with_reducible refine (HC.out _ _ _ _ (HE.out.below bq) (HFW.out.map.below bq)).mono ?_);rintro x w2 ⟨rfl,hb2⟩;obtain ⟨hc2,hf2⟩:=bcell hb2;have a2:wr.heap.size < w2.heap.size:=sz_of hb2 oq;have a3:wr.heap.size + 1 < w2.heap.size:=sz_of hb2 oq))
       go_quiet (fail)
       go_wp2
       go_ret2
       exact ⟨.inl ⟨ab,eb,hgd,rfl⟩,(by repeat (first | (with_reducible exact Upon.refl _ _) | ((with_reducible refine Upon.setAt ?_ ?_ _);(rotate_left;focus (first | exact Or.inl rfl | omega | (simp;done) | (simp;omega)))) | (with_reducible refine Upon.alloc ?_ _) | (with_reducible refine Upon.drewN ?_ _) | (with_reducible refine Upon.drew ?_) | (with_reducible refine Upon.trans ?_ (Upon.of_below hb2)) | (with_reducible refine Upon.trans ?_ HFW.out.upon)))⟩
      | ok p q =>
       simp only [TT.v] at HC
       have HRT:=hid (hrt p q rfl)
       clear hgd hrt
       go_wp2_with (first | (at_lookup;refine wpList_lookS_no2 clocksMap _ rfl _ _ rfl mb L nm rfl rfl (HFW.out.map.below bq) HG.out ?_) | (go_at_call 88;(with_reducible refine (HC.out _ _ _ _ (HE.out.below bq) (HFW.out.map.below bq)).mono ?_);rintro x w2 ⟨rfl,hb2⟩;obtain ⟨hc2,hf2⟩:=bcell hb2;have a2:wr.heap.size < w2.heap.size:=sz_of hb2 oq;have a3:wr.heap.size + 1 < w2.heap.size:=sz_of hb2 oq) | (at_mapUpdate;refine wpList_putS clocksMap _ rfl _ _ _ rfl mb L nm (cvv (p,q)) rfl rfl rfl (HFW.out.map.below bq) ?_;intro arr clock hm2))
       refine ⟨?_,by simp [intOf];omega⟩
       refine ⟨i + 1,true,upd env nm (p,q),_,by go_num,rfl,by omega,⟨upon_putM (by repeat (first | (with_reducible exact Upon.refl _ _) | ((with_reducible refine Upon.setAt ?_ ?_ _);(rotate_left;focus (first | exact Or.inl rfl | omega | (simp;done) | (simp;omega)))) | (with_reducible refine Upon.alloc ?_ _) | (with_reducible refine Upon.drewN ?_ _) | (with_reducible refine Upon.drew ?_) | (with_reducible refine Upon.trans ?_ (Upon.of_below hb2)) | (with_reducible refine Upon.trans ?_ HFW.out.upon))) _,hm2,HFW.out.env.put nm (p,q)⟩,HPUT.out (p,q) HTT.out HRT.out _,?_⟩
       rw [putS_new _ _ _ HG.out]
       have:=HLN.out
       simp only [isT]
       omega
    ·have hcn:=HFG.out.cnt
     clear hfw
     go_wp2
     refine ⟨⟨b,env,L,rfl,HFW.out,HFG.out⟩,?_⟩
     cases b <;> simp only [isT] at hln ⊢ <;> omega
def ErrPair (x:Ending):Prop:=∃ a e,e ≠ 0 ∧ x = .returned (.tuple #[.int .i64 a,.int .i64 e])
def FdS (env:Env) (f:FL):Prop:=∃ c,env f.nm = some c
def GfRel (w:World) (flows:List FL) (S:FL → Prop) (v:Value) (wr:World):Prop:=∃ i:Nat,v = .int .i64 (i:Int) ∧ i ≤ flows.length ∧ (∀ j (h:j < flows.length),j < i → S flows[j]) ∧ Below w.heap.size w wr
theorem upto_next {flows:List FL} {S:FL → Prop} {i:Nat} (h:∀ j (hj:j < flows.length),j < i → S flows[j]) (hi:∀ hj:i < flows.length,S flows[i]):∀ j (hj:j < flows.length),j < i + 1 → S flows[j]:=by
 intro j hj hji
 by_cases h1:j < i
 ·exact h j hj h1
 ·have:j = i:=by omega
  subst this;exact hi hj
theorem upto_all {flows:List FL} {S:FL → Prop} {i:Nat} (h:∀ j (hj:j < flows.length),j < i → S flows[j]) (hi:flows.length ≤ i):∀ f ∈ flows,S f:=by
 intro f hf
 obtain ⟨j,hj,rfl⟩:=List.getElem_of_mem hf
 exact h j hj oq
set_option maxRecDepth 100000 in
set_option maxHeartbeats 2000000 in
theorem askFound_gen {w:World} (flows:List FL) (af:Option Addr) (cf mb:Nat) (L:List (ByteArray × Value)) (env:Env) (hr:Row FlC 8 w flows af) (hc1:flows.length ≤ cf) (hc2:cf ≤ 9223372036854775807)
  (hM:MapS w mb L) (hE:EnvIs L env) :
  Calls Tryz.prog 46 #[.map (some mb),.slice af flows.length cf] w fun x w' => (ErrPair x ∨ (x = OkPair ∧ ∀ f ∈ flows,FdS env f)) ∧ Below w.heap.size w w':=by
 have HR:=hid hr
 have HM:=hid hM
 have hfl64:flows.length ≤ 9223372036854775807:=Nat.le_trans hc1 hc2
 clear hr hM
 go_enter Tryz.func46,Tryz.ntmps46
 go_wp2
 go_loopw [12] (fun v wr => Hid (GfRel w flows (FdS env) v wr)) (fun i _ => flows.length - (intOf i).toNat)
 case atStart => exact ⟨0,rfl,Nat.zero_le _,fun j hj h => absurd h oq,bq⟩
 case round =>
  obtain ⟨i,rfl,hi,hS,hbel⟩:=hrel.out
  clear hrel
  have HBEL:=hid hbel
  have HS:=hid hS
  have hsW:=hbel.size
  clear hS
  by_cases hlt:i < flows.length
  ·have hrow:=HR.out.below flSta hbel
   obtain ⟨bb,oo,rfl,hbb,hfl⟩:=hrow.at hlt
   have HNX:=hid (fun h:FdS env flows[i] => upto_next (S:=FdS env) HS.out (fun _ => h))
   obtain ⟨f,hf⟩:∃ f,flows[i] = f:=⟨_,rfl⟩
   rw [hf] at hfl HNX
   obtain ⟨nm,⟨k1,nm1,n1,d1,args1,a1⟩,fa⟩:=f
   obtain ⟨ad1,cap1,x0,x1,x2,x3,x4,x5,x6,x7,hae,hfn⟩:=hfl.cells
   try simp only at HNX
   have hie:(i:Int) < (flows.length:Int):=by omega
   cases hc:env nm with
   | some c =>
    obtain ⟨c1,c2⟩:=c
    have HG:=hid (show getS nm L = some (.agg #[.int .i64 c1,.int .i64 c2]) by rw [hE nm,hc];rfl)
    have HC:=hid (HNX.out (show FdS env _ from ⟨_,hc⟩))
    clear hbel hrow hae hc HNX
    go_wp2_with (at_lookup;refine wpList_lookS_yes2 clocksMap _ rfl _ _ rfl mb L nm _ rfl rfl (HM.out.below bq) HG.out ?_)
    refine ⟨⟨i + 1,by go_num,by omega,HC.out,bq⟩,by simp [intOf];omega⟩
   | none =>
    have HG:=hid (show getS nm L = none by rw [hE nm,hc];rfl)
    clear hbel hrow hae hc HNX
    go_wp2_with (at_lookup;refine wpList_lookS_no2 clocksMap _ rfl _ _ rfl mb L nm rfl rfl (HM.out.below bq) HG.out ?_)
    go_ret2
    exact ⟨.inl ⟨fa,6,by decide,rfl⟩,bq⟩
  ·go_wp2
   go_ret2
   exact ⟨.inr ⟨rfl,upto_all (S:=FdS env) (i:=i) HS.out oq⟩,HBEL.out⟩
def FcS (env:Env) (f:FL):Prop:=∃ p q,tellE env f.e = .ok p q ∧ env f.nm = some (p,q)
set_option maxRecDepth 100000 in
set_option maxHeartbeats 4000000 in
theorem askFlows_gen {w:World} (flows:List FL) (af:Option Addr) (cf mb:Nat) (L:List (ByteArray × Value)) (env:Env) (hr:Row FlC 8 w flows af) (hc1:flows.length ≤ cf) (hc2:cf ≤ 9223372036854775807)
  (hM:MapS w mb L) (hE:EnvIs L env) (hA:∀ f ∈ flows,∃ c,env f.nm = some c) (hRt:RtE env) :
  Calls Tryz.prog 48 #[.map (some mb),.slice af flows.length cf] w fun x w' => (ErrPair x ∨ (x = OkPair ∧ ∀ f ∈ flows,FcS env f)) ∧ Below w.heap.size w w':=by
 have HR:=hid hr
 have HM:=hid hM
 have HA:=hid hA
 have HRT:=hid hRt
 have hfl64:flows.length ≤ 9223372036854775807:=Nat.le_trans hc1 hc2
 clear hr hM hA hRt
 go_enter Tryz.func48,Tryz.ntmps48
 go_wp2
 go_loopw [10] (fun v wr => Hid (GfRel w flows (FcS env) v wr)) (fun i _ => flows.length - (intOf i).toNat)
 case atStart => exact ⟨0,rfl,Nat.zero_le _,fun j hj h => absurd h oq,bq⟩
 case round =>
  obtain ⟨i,rfl,hi,hS,hbel⟩:=hrel.out
  clear hrel
  have HBEL:=hid hbel
  have HS:=hid hS
  have hsW:=hbel.size
  clear hS
  by_cases hlt:i < flows.length
  ·have hrow:=HR.out.below flSta hbel
   obtain ⟨bb,oo,rfl,hbb,hfl⟩:=hrow.at hlt
   obtain ⟨c,hc⟩:=HA.out flows[i] (List.getElem_mem hlt)
   have HNX:=hid (fun h:FcS env flows[i] => upto_next (S:=FcS env) HS.out (fun _ => h))
   obtain ⟨f,hf⟩:∃ f,flows[i] = f:=⟨_,rfl⟩
   rw [hf] at hfl hc HNX
   obtain ⟨nm,⟨k1,nm1,n1,d1,args1,a1⟩,fa⟩:=f
   obtain ⟨ad1,cap1,x0,x1,x2,x3,x4,x5,x6,x7,hae,hfn⟩:=hfl.cells
   simp only at hc
   obtain ⟨c1,c2⟩:=c
   have hrt:=clock.right_iff.1 (HRT.out nm (c1,c2) hc)
   simp only at hrt
   have hg:getS nm L = some (.agg #[.int .i64 c1,.int .i64 c2]):=by rw [hE nm,hc];rfl
   have HG:=hid hg
   have hMr:=HM.out.below hbel
   have hl1:=look_yes (w:=(wr.alloc (Obj.cells #[.string nm,.int .i64 k1,.string nm1,.int .i64 n1,.int .i64 d1,.slice ad1 args1.len cap1,.int .i64 a1,.int .i64 fa] 108)).drew) (hMr.below bq) hg
   have HC:=hid (tell_any hE ⟨k1,nm1,n1,d1,args1,a1⟩)
   have HE:=hid hae
   unfold TellSaid at HC
   simp only at HC
   have hFC:∀ p q,tellE env ⟨k1,nm1,n1,d1,args1,a1⟩ = .ok p q → (p = c1 ∧ q = c2) → FcS env ⟨nm,⟨k1,nm1,n1,d1,args1,a1⟩,fa⟩:=fun p q h1 h2 => ⟨p,q,h1,by rw [h2.1,h2.2];exact hc⟩
   have hie:(i:Int) < (flows.length:Int):=by omega
   have HMR:=hid hMr
   clear hbel hrow hae hc hg hMr
   generalize htt:tellE env ⟨k1,nm1,n1,d1,args1,a1⟩ = t at HC hFC
   cases t with
   | unk =>
    simp only [TT.v] at HC
    have hfd:=fun w => told_field w 0 0 0 0 false
    have hne:¬ (0:Int) = c1:=by omega
    clear hFC HNX htt hrt
    go_wp2
    go_region_with (go_at_call 88;(with_reducible refine (HC.out _ _ _ _ (HE.out.below bq) (HMR.out.below bq)).mono ?_);rintro x w2 ⟨rfl,hb2⟩;obtain ⟨hc2,hf2⟩:=bcell hb2;have a2:wr.heap.size < w2.heap.size:=sz_of hb2 oq;have hl2:=look_yes (w:=w2) (HMR.out.below bq) HG.out)
    all_goals go_wp2
    all_goals (go_ret2;exact ⟨.inl ⟨fa,5,by decide,rfl⟩,bq⟩)
   | bad ab eb =>
    simp only [TT.v] at HC
    have hfd:=fun w => told_field w 0 0 ab eb false
    have hne:¬ (0:Int) = c1:=by omega
    clear hFC HNX htt hrt
    go_wp2
    go_region_with (go_at_call 88;(with_reducible refine (HC.out _ _ _ _ (HE.out.below bq) (HMR.out.below bq)).mono ?_);rintro x w2 ⟨rfl,hb2⟩;obtain ⟨hc2,hf2⟩:=bcell hb2;have a2:wr.heap.size < w2.heap.size:=sz_of hb2 oq;have hl2:=look_yes (w:=w2) (HMR.out.below bq) HG.out)
    all_goals go_wp2
    all_goals (go_ret2;exact ⟨.inl ⟨fa,5,by decide,rfl⟩,bq⟩)
   | ok p q =>
    simp only [TT.v] at HC
    have hfd:=fun w => told_field w p q 0 0 true
    by_cases h1:p = c1
    ·by_cases h2:q = c2
     ·have HN:=hid (HNX.out (hFC p q rfl ⟨h1,h2⟩))
      subst h1;subst h2
      clear hFC HNX htt hrt
      go_wp2
      go_region_with (go_at_call 88;(with_reducible refine (HC.out _ _ _ _ (HE.out.below bq) (HMR.out.below bq)).mono ?_);rintro x w2 ⟨rfl,hb2⟩;obtain ⟨hc2,hf2⟩:=bcell hb2;have a2:wr.heap.size < w2.heap.size:=sz_of hb2 oq;have hl2:=look_yes (w:=w2) (HMR.out.below bq) HG.out)
      all_goals go_wp2
      all_goals refine ⟨⟨i + 1,by go_num,by omega,HN.out,bq⟩,by simp [intOf];omega⟩
     ·subst h1
      clear hFC HNX htt hrt
      go_wp2
      go_region_with (go_at_call 88;(with_reducible refine (HC.out _ _ _ _ (HE.out.below bq) (HMR.out.below bq)).mono ?_);rintro x w2 ⟨rfl,hb2⟩;obtain ⟨hc2,hf2⟩:=bcell hb2;have a2:wr.heap.size < w2.heap.size:=sz_of hb2 oq;have hl2:=look_yes (w:=w2) (HMR.out.below bq) HG.out)
      all_goals go_wp2
      all_goals (go_ret2;exact ⟨.inl ⟨fa,5,by decide,rfl⟩,bq⟩)
    ·clear hFC HNX htt hrt
     go_wp2
     go_region_with (go_at_call 88;(with_reducible refine (HC.out _ _ _ _ (HE.out.below bq) (HMR.out.below bq)).mono ?_);rintro x w2 ⟨rfl,hb2⟩;obtain ⟨hc2,hf2⟩:=bcell hb2;have a2:wr.heap.size < w2.heap.size:=sz_of hb2 oq;have hl2:=look_yes (w:=w2) (HMR.out.below bq) HG.out)
     all_goals go_wp2
     all_goals (go_ret2;exact ⟨.inl ⟨fa,5,by decide,rfl⟩,bq⟩)
  ·go_wp2
   go_ret2
   exact ⟨.inr ⟨rfl,upto_all (S:=FcS env) (i:=i) HS.out oq⟩,HBEL.out⟩
theorem rt_in:∀ (l:List IN) (e:Env),RtE e → (∀ x ∈ l,clock.rightB x.per x.ph = true) → RtE (inEnv l e):=by
 intro l
 induction l with
 | nil => intro e h _;exact h
 | cons x l ih =>
  intro e h hx
  refine ih _ (fun nm c hc => ?_) (fun y hy => hx y (List.mem_cons_of_mem _ hy))
  unfold upd at hc
  by_cases hn:nm = x.nm
  ·rw [if_pos hn] at hc;injection hc with hc;rw [← hc];exact hx x List.mem_cons_self
  ·rw [if_neg hn] at hc;exact h nm c hc
theorem rt_env0 {ins:List IN} (h:∀ x ∈ ins,clock.rightB x.per x.ph = true):RtE (env0 ins):=rt_in ins _ (fun nm c hc => by cases hc) h
theorem GrE.trans {a:Env} {flows:List FL} {b c:Env} (h:GrE a flows b) (k:GrE b flows c):GrE a flows c:=by
 induction k with
 | base => exact h
 | step _ h1 h2 h3 ih => exact .step ih h1 h2 h3
structure ClkF (p:PG) (env:Env):Prop where
 rt:RtE env
 ext:ExtE (env0 p.ins) env
 gr:GrE (env0 p.ins) p.flows env
 calls:callsOK env p.flows = true
 flows:∀ f ∈ p.flows,FcS env f
def ClkG (w:World) (p:PG) (x:Ending) (w':World):Prop :=
 ((∃ a e,e ≠ 0 ∧ x = .returned (.tuple #[.slice none 0 0,.int .i64 a,.int .i64 e])) ∨ ∃ v env,x = .returned (.tuple #[v,.int .i64 0,.int .i64 0]) ∧ ClkF p env ∧ ClkRow w' v (p.flows.map (fun f => clkAt env f.nm))) ∧ Below w.heap.size w w'
def L2G (w W:World) (mb:Nat) (p:PG) (v:Value) (wr:World):Prop :=
 ∃ (j:Nat) (env:Env) (L:List (ByteArray × Value)),v = .int .i64 (j:Int) ∧ j ≤ 4 ∧ CW w W wr mb ∧ MapS wr mb L ∧ EnvIs L env ∧ RtE env ∧ ExtE (env0 p.ins) env ∧ GrE (env0 p.ins) p.flows env ∧ (2 ≤ j → ∀ f ∈ p.flows,∃ c,env f.nm = some c) ∧ (3 ≤ j → callsOK env p.flows = true) ∧ (4 ≤ j → ∀ f ∈ p.flows,FcS env f)
theorem errPair_b {x:Ending} (h:ErrPair x):∃ a e,e ≠ 0 ∧ (e == 0) = false ∧ x = .returned (.tuple #[.int .i64 a,.int .i64 e]):=by
 obtain ⟨a,e,h1,h2⟩:=h
 exact ⟨a,e,h1,beq_eq_false_iff_ne.2 h1,h2⟩
set_option maxRecDepth 100000 in
set_option maxHeartbeats 4000000 in
theorem clocks_gen {w:World} (p:PG) (an ai af ao:Option Addr) (cn ci cf co:Nat) (hp:AP w p an ai af ao cn ci cf co) (hs:sumN p.nodes + sumF p.flows ≤ 8000) (hl:p.flows.length ≤ 1000) (hI:∀ x ∈ p.ins,clock.rightB x.per x.ph = true) :
  Calls Tryz.prog 17 #[pv p an ai af ao cn ci cf co] w (ClkG w p):=by
 obtain ⟨nodes,ins,flows,outs⟩:=p
 have hR0:=rt_env0 hI
 simp only at hs hl hR0
 have HFT:=hid (fun (w':World) (hb:Below w.heap.size w w') => fits_any ⟨nodes,ins,flows,outs⟩ an ai af ao cn ci cf co (hp.below hb) hs)
 unfold pv at HFT
 simp only at HFT
 have HI:=hid hp.ins
 have HF:=hid hp.flows
 have hcap:=hp.caps
 simp only at hcap
 have hil:ins.length ≤ 9223372036854775807:=by omega
 have hfl:flows.length ≤ 9223372036854775807:=by omega
 have HR0:=hid hR0
 clear hp hI hR0
 unfold pv
 simp only
 have hmk:=fun w => run_makeMap (P:=Tryz.prog) 115 w
 go_enter Tryz.func17,Tryz.ntmps17
 go_wp2_with (go_at_call 44;refine (HFT.out _ bq).mono ?_;rintro x w1 ⟨rfl,hb1⟩;obtain ⟨hc1,hf1⟩:=bcell hb1;have b1:w.heap.size < w1.heap.size:=sz_of hb1 oq)
 have HB1:=hid hb1
 have hpb0:(w1.alloc (.map #[] 0)).heap[w.heap.size]? = some (.cells #[.slice an nodes.length cn,.slice ai ins.length ci,.slice af flows.length cf,.slice ao outs.length co] 27 (0,0)):=(Below.heap_alloc _ _ _ b1).trans ((hb1.block _ oq).trans (heap_new w _))
 have HCW0:=hid (show CW w (w1.alloc (.map #[] 0)) (w1.alloc (.map #[] 0)) w1.heap.size from ⟨Upon.refl _ _,by simp;omega,bq,b1⟩)
 have HM0:=hid (MapS.new w1)
 have HPB0:=hid hpb0
 generalize w1.alloc (.map #[] 0) = W1 at *
 obtain ⟨mb,hmb⟩:∃ mb,w1.heap.size = mb:=⟨_,rfl⟩
 rw [hmb] at b1 HCW0 HM0 ⊢
 clear hmb hc1 hf1 hb1 HB1 hpb0
 go_loopw [22] (fun v wr => Hid (L1Rel w W1 mb ins v wr)) (fun i _ => ins.length - (intOf i).toNat)
 case atStart => exact ⟨0,fun _ => none,[],rfl,Nat.zero_le _,HCW0.out,HM0.out,envNil,rfl⟩
 case round =>
  obtain ⟨i,env,L,rfl,hi,hcw,hM,hE,hen⟩:=hrel.out
  clear hrel
  have HM:=hid hM
  have HCW:=hid hcw
  have HE:=hid hE
  have hlow:=hcw.low
  have hmlt:=hM.lt
  have hszr:=hlow.size
  have hpb:=(hcw.upon.block _ (lt_of_block HPB0.out) oq).trans HPB0.out
  obtain ⟨⟨p0,p1,p2,p3⟩,pf⟩:=cells4 hpb
  have HPB:=hid hpb
  have hplt:=lt_of_block hpb
  clear hcw hM hE hpb
  by_cases hlt:i < ins.length
  ·obtain ⟨bb,oo,rfl,hbb0,hin0⟩:=HI.out.at hlt
   have hin:=hin0.later hlow hbb0
   rw [drop_in hlt] at hen
   obtain ⟨f,hf⟩:∃ f,ins[i] = f:=⟨_,rfl⟩
   rw [hf] at hin hen
   obtain ⟨nm,per,ph,fa⟩:=f
   obtain ⟨y0,y1,y2,y3,_⟩:=hin
   simp only at y0 y1 y2 y3
   have HEN:=hid (show inEnv (ins.drop (i + 1)) (upd env nm (per,ph)) = env0 ins from hen)
   have hie:(i:Int) < (ins.length:Int):=by omega
   have hbb:bb < wr.heap.size:=by omega
   clear hin0 hen hlow
   go_wp2_with (at_mapUpdate;refine wpList_putS clocksMap _ rfl _ _ _ rfl mb L nm (cvv (per,ph)) rfl rfl rfl (HM.out.below bq) ?_;intro arr clock hm2)
   refine ⟨⟨i + 1,upd env nm (per,ph),_,by go_num,by omega,⟨HCW.out.upon.trans (upon_putM ((Upon.refl _ _).alloc _) _),HCW.out.size,HCW.out.below,b1⟩,hm2,HE.out.put nm (per,ph),HEN.out⟩,by simp [intOf];omega⟩
  ·have hie:i = ins.length:=by omega
   subst hie
   have he0:env = env0 ins:=by rw [List.drop_length] at hen;exact hen
   subst he0
   clear hen
   obtain ⟨W2,hW2⟩:∃ W2,wr.alloc (Obj.cells #[.func (.func 45) #[.map (some mb)] #[],.func (.func 46) #[.map (some mb)] #[],.func (.func 47) #[.map (some mb)] #[],.func (.func 48) #[.map (some mb)] #[]] 116) = W2:=⟨_,rfl⟩
   obtain ⟨fb,hfb⟩:∃ fb,wr.heap.size = fb:=⟨_,rfl⟩
   go_wp2
   try rw [hW2]
   have HFB:=hid (show W2.heap[fb]? = some _ from by rw [← hW2,← hfb];exact heap_new wr _)
   have hW2s:W2.heap.size = fb + 1:=by rw [← hW2,← hfb];simp
   have HPB2:=hid (show W2.heap[w.heap.size]? = some (.cells #[.slice an nodes.length cn,.slice ai ins.length ci,.slice af flows.length cf,.slice ao outs.length co] 27 (0,0)) from by rw [← hW2];exact (Below.heap_alloc _ _ _ hplt).trans HPB.out)
   have HCW2:=hid (show CW w W2 W2 mb from ⟨Upon.refl _ _,by omega,by rw [← hW2];exact hlow.alloc hszr _,b1⟩)
   have HM2:=hid (show MapS W2 mb L from by rw [← hW2];exact HM.out.below bq)
   rw [hfb] at hmlt
   clear hW2 hfb hlow hszr hplt p0 p1 p2 p3 pf HPB HM HCW HPB0 HM0 HCW0
   go_loopw [45] (fun v wr => Hid (L2G w W2 mb ⟨nodes,ins,flows,outs⟩ v wr)) (fun i _ => 4 - (intOf i).toNat)
   case atStart => exact ⟨0,env0 ins,L,rfl,by omega,HCW2.out,HM2.out,HE.out,HR0.out,fun _ _ h => h,.base,fun h => absurd h oq,fun h => absurd h oq,fun h => absurd h oq⟩
   case round =>
    obtain ⟨j,env,L2,rfl,hj,hcw,hM,hE,hrt,hex,hgr,hj2,hj3,hj4⟩:=hrel.out
    clear hrel
    simp only at hex hgr hj2 hj3 hj4
    have HGR:=hid hgr
    have HRT:=hid hrt
    have HEX:=hid hex
    have hlow:=hcw.low
    have hszr:=hlow.size
    have hpb:=(hcw.upon.block _ (lt_of_block HPB2.out) oq).trans HPB2.out
    have hfbk:=(hcw.upon.block _ (lt_of_block HFB.out) oq).trans HFB.out
    obtain ⟨⟨p0,p1,p2,p3⟩,pf⟩:=cells4 hpb
    obtain ⟨⟨q0,q1,q2,q3⟩,qf⟩:=cells4 hfbk
    have HPB:=hid hpb
    have hrow:=HF.out.below flSta hlow
    have HM:=hid hM
    have HE2:=hid hE
    have HCW:=hid hcw
    match j,hj with
    | 0,_ =>
     have HC:=hid (find_gen (W0:=w) (w:=wr) flows af cf mb L2 env hlow (Nat.le_of_lt b1) HF.out hcap.2.2.1.1 hcap.2.2.1.2 hM hE hrt)
     have HJ2:=hid hj2
     have HJ3:=hid hj3
     clear hcw hM hE hrow hpb hfbk hrt hex hj2 hj3 hj4 hlow
     go_wp2_with (go_at_call 45;refine HC.out.mono ?_;rintro x w3 ⟨hx3,hu3⟩;unfold OkPair at hx3;rcases hx3 with hx3 | ⟨rfl,L3,env3,hM3,hE3,hR3,hX3,hG3⟩;obtain ⟨ab,eb,heb,heb',rfl⟩:=errPair_b hx3)
     all_goals first | (go_ret3;exact ⟨.inl ⟨ab,eb,heb,rfl⟩,HCW.out.low.trans (hu3.below hszr (Nat.le_of_lt b1))⟩) | exact ⟨⟨1,env3,L3,by go_num,by omega,⟨HCW.out.upon.trans hu3,HCW.out.size,HCW.out.below,b1⟩,hM3,hE3,hR3,fun nm c h => hX3 nm c (HEX.out nm c h),HGR.out.trans hG3,fun h => absurd h oq,fun h => absurd h oq,fun h => absurd h oq⟩,by simp [intOf]⟩
    | 1,_ =>
     have HC:=hid (askFound_gen (w:=wr) flows af cf mb L2 env hrow hcap.2.2.1.1 hcap.2.2.1.2 hM hE)
     have HJ2:=hid hj2
     have HJ3:=hid hj3
     clear hcw hM hE hrow hpb hfbk hrt hex hj2 hj3 hj4 hlow
     go_wp2_with (go_at_call 46;refine HC.out.mono ?_;rintro x w3 ⟨hx3,hb3⟩;unfold OkPair at hx3;rcases hx3 with hx3 | ⟨rfl,hall⟩;obtain ⟨ab,eb,heb,heb',rfl⟩:=errPair_b hx3)
     all_goals first | (go_ret3;exact ⟨.inl ⟨ab,eb,heb,rfl⟩,HCW.out.low.trans (hb3.mono hszr)⟩) | exact ⟨⟨2,env,L2,by go_num,by omega,⟨HCW.out.upon.trans (Upon.of_below hb3),HCW.out.size,HCW.out.below,b1⟩,HM.out.below hb3,HE2.out,HRT.out,HEX.out,HGR.out,fun _ => hall,fun h => absurd h oq,fun h => absurd h oq⟩,by simp [intOf]⟩
    | 2,_ =>
     have HC:=hid (askCalls_any (w:=wr) flows af cf mb L2 env hrow hcap.2.2.1.1 hcap.2.2.1.2 hM hE)
     have HJ2:=hid (hj2 oq)
     clear hcw hM hE hrow hpb hfbk hrt hex hj2 hj3 hj4 hlow
     cases hck:callsOK env flows with
     | false =>
      rw [hck] at HC
      go_wp2_with (go_at_call 47;go_loud (refine HC.out.mono ?_;rintro x w3 ⟨⟨ab,eb,heb,rfl⟩,hb3⟩;have heb':(eb == 0) = false:=beq_eq_false_iff_ne.2 heb))
      go_ret3
      exact ⟨.inl ⟨ab,eb,heb,rfl⟩,HCW.out.low.trans (hb3.mono hszr)⟩
     | true =>
      rw [hck] at HC
      go_wp2_with (go_at_call 47;go_loud (refine HC.out.mono ?_;rintro x w3 ⟨he,hb3⟩;obtain rfl:x = .returned (.tuple #[.int .i64 0,.int .i64 0]):=he))
      refine ⟨⟨3,env,L2,by go_num,by omega,⟨HCW.out.upon.trans (Upon.of_below hb3),HCW.out.size,HCW.out.below,b1⟩,HM.out.below hb3,HE2.out,HRT.out,HEX.out,HGR.out,fun _ => HJ2.out,fun _ => hck,fun h => absurd h oq⟩,by simp [intOf]⟩
    | 3,_ =>
     have HC:=hid (askFlows_gen (w:=wr) flows af cf mb L2 env hrow hcap.2.2.1.1 hcap.2.2.1.2 hM hE (hj2 oq) hrt)
     have HJ2:=hid hj2
     have HJ3:=hid hj3
     clear hcw hM hE hrow hpb hfbk hrt hex hj2 hj3 hj4 hlow
     go_wp2_with (go_at_call 48;refine HC.out.mono ?_;rintro x w3 ⟨hx3,hb3⟩;unfold OkPair at hx3;rcases hx3 with hx3 | ⟨rfl,hfc⟩;obtain ⟨ab,eb,heb,heb',rfl⟩:=errPair_b hx3)
     all_goals first | (go_ret3;exact ⟨.inl ⟨ab,eb,heb,rfl⟩,HCW.out.low.trans (hb3.mono hszr)⟩) | exact ⟨⟨4,env,L2,by go_num,by omega,⟨HCW.out.upon.trans (Upon.of_below hb3),HCW.out.size,HCW.out.below,b1⟩,HM.out.below hb3,HE2.out,HRT.out,HEX.out,HGR.out,fun _ => HJ2.out oq,fun _ => HJ3.out oq,fun _ => hfc⟩,by simp [intOf]⟩
    | 4,_ =>
     have hhas:=hj2 oq
     have HHAS:=hid hhas
     have HCF:=hid (show ClkF ⟨nodes,ins,flows,outs⟩ env from ⟨hrt,hex,hgr,hj3 oq,hj4 oq⟩)
     obtain ⟨W3,hW3⟩:∃ W3,wr.alloc (.cells (madeCells #[.int .i64 0,.int .i64 0] (flows.length * 2)) 49) = W3:=⟨_,rfl⟩
     obtain ⟨b,hb⟩:∃ b,wr.heap.size = b:=⟨_,rfl⟩
     have hplt:=lt_of_block hpb
     have hmlt2:=hM.lt
     have hpb3:W3.heap[w.heap.size]? = some (.cells #[.slice an nodes.length cn,.slice ai ins.length ci,.slice af flows.length cf,.slice ao outs.length co] 27 (0,0)):=by rw [← hW3];exact (Below.heap_alloc _ _ _ hplt).trans hpb
     obtain ⟨⟨r0,r1,r2,r3⟩,rf⟩:=cells4 hpb3
     clear hcw hM hE hrow hfbk hrt hex hj2 hj3 hj4 hhas
     go_wp2_with (at_make;refine wpList_mk _ rfl _ _ rfl flows.length rfl rfl hl ?_)
     try rw [hW3]
     try rw [hb]
     have hB3:W3.heap[b]? = some (.cells (madeCells #[.int .i64 0,.int .i64 0] (flows.length * 2)) 49 (0,0)):=by rw [← hW3,← hb];exact heap_new wr _
     have HB3:=hid hB3
     have hW3s:W3.heap.size = b + 1:=by rw [← hW3,← hb];simp
     have hlow3:Below w.heap.size w W3:=by rw [← hW3];exact hlow.alloc hszr _
     have HLOW:=hid hlow3
     have HM3:=hid (show MapS W3 mb L2 from by rw [← hW3];exact HM.out.below bq)
     rw [hb] at hmlt2 hplt hszr
     clear hW3 hb hlow3 hlow hB3 hpb hpb3 HM HPB HCW p0 p1 p2 p3 pf q0 q1 q2 q3 qf r0 r1 r2 r3 rf
     go_loopw [68] (fun v wr => Hid (L3Rel w W3 mb b env L2 flows v wr)) (fun i _ => flows.length - (intOf i).toNat)
     case atStart => exact ⟨0,_,rfl,Nat.zero_le _,Upon.refl _ _,HB3.out,made_size _,fun j h hj => absurd hj oq⟩
     case round =>
      obtain ⟨i,arr,rfl,hi,hup,hblk,hasz,hcells⟩:=hrel.out
      clear hrel
      have hlow:=HLOW.out.trans (hup.below oq (Nat.le_of_lt hplt))
      have hszr:=hlow.size
      have hszu:=hup.size
      have HUP:=hid hup
      have HBLK:=hid hblk
      have hca:=blk_cellA hblk
      have hM:=HM3.out.upon hup oq
      have HCE:=hid hcells
      by_cases hlt:i < flows.length
      ·obtain ⟨bb,oo,rfl,hbb0,hfl0⟩:=HF.out.at hlt
       have hfl':=hfl0.later hlow hbb0
       obtain ⟨c,hc⟩:=HHAS.out flows[i] (List.getElem_mem hlt)
       obtain ⟨f,hf⟩:∃ f,flows[i] = f:=⟨_,rfl⟩
       have HF2:=hid hf
       rw [hf] at hfl' hc
       obtain ⟨nm,⟨k1,nm1,n1,d1,args1,a1⟩,fa⟩:=f
       obtain ⟨ad,cap,y0,y1,y2,y3,y4,y5,y6,y7,hae,hfn⟩:=hfl'.cells
       obtain ⟨c1,c2⟩:=c
       have HG:=hid (show getS nm L2 = some (.agg #[.int .i64 c1,.int .i64 c2]) by rw [HE2.out nm,hc];rfl)
       have hie:(i:Int) < (flows.length:Int):=by omega
       have hbb:bb < wr.heap.size:=by omega
       have hblt:b < wr.heap.size:=lt_of_block hblk
       have z0:wr.cell? ⟨b,i * 2,none⟩ = some arr[i * 2]:=by rw [(hca _).1];exact Array.getElem?_eq_getElem oq
       have z1:wr.cell? ⟨b,i * 2 + 1,none⟩ = some arr[i * 2 + 1]:=by rw [(hca _).1];exact Array.getElem?_eq_getElem oq
       have zf0:=(hca (i * 2)).2
       have zf1:=(hca (i * 2 + 1)).2
       have HMr:=hid hM
       have HC:=hid hc
       clear hup hblk hcells hca hM hfl' hfl0 hf hc hae hfn hlow hbb0
       go_wp2_with (at_lookup;refine wpList_lookS_yes1 clocksMap _ rfl _ _ rfl mb L2 nm _ rfl rfl (HMr.out.below bq) HG.out ?_)
       refine ⟨⟨i + 1,_,by go_num,by omega,((HUP.out.setAt (.inl rfl) _).setAt (.inl rfl) _).alloc _,(Below.heap_alloc _ _ _ (by simpa [World.setCell] using hblt)).trans (blk_setA (blk_setA HBLK.out (i * 2) (.int .i64 c1)) (i * 2 + 1) (.int .i64 c2)),by simpa using hasz,fun j hj hji => ?_⟩,by simp [intOf];omega⟩
       by_cases hjl:j < i
       ·have h:=HCE.out j hj hjl
        rw [Array.getElem?_setIfInBounds_ne oq,Array.getElem?_setIfInBounds_ne oq,Array.getElem?_setIfInBounds_ne oq,Array.getElem?_setIfInBounds_ne oq]
        exact h
       ·have hje:j = i:=by omega
        subst hje
        have hk:clkAt env flows[j].nm = (c1,c2):=by rw [HF2.out];unfold clkAt;rw [HC.out];rfl
        rw [hk]
        rw [Array.getElem?_setIfInBounds_ne oq,Array.getElem?_setIfInBounds_self_of_lt oq,Array.getElem?_setIfInBounds_self_of_lt (by rw [Array.size_setIfInBounds];omega)]
        exact ⟨rfl,rfl⟩
      ·have hie:i = flows.length:=by omega
       subst hie
       clear hup hblk hcells hca hM
       go_wp2
       go_ret3
       refine ⟨.inr ⟨_,env,rfl,HCF.out,b,by simp,lt_of_block HBLK.out,fun j hj => ?_⟩,hlow⟩
       have hj':j < flows.length:=by simpa using hj
       have h:=HCE.out j hj' hj'
       have hca:=blk_cellA HBLK.out
       refine ⟨(hca _).1.trans ?_,(hca _).1.trans ?_⟩
       ·rw [h.1];simp
       ·rw [h.2];simp
    | j + 5,h => exact absurd h oq
end Go.Proofs.YtpjficjlfibibaaGreatDoor.syn
