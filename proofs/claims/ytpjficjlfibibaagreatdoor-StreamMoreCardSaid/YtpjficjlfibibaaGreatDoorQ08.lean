/-
  Parts of the proof: Chk1, Chk2, Evl5, Evl6, Keep, Gcd, Num.
-/
import Derived.Test.YtpjficjlfibibaaGreatDoorQ02
import Derived.Test.YtpjficjlfibibaaGreatDoorQ01
import Derived.Test.YtpjficjlfibibaaGreatDoorQ07
import Derived.Lib.MinMax
import Derived.Test.YtpjficjlfibibaaGreatDoorQ06
import Derived.RangeFuncNested
import Derived.RangeFuncBound
import Derived.RangeFuncCalls
import Derived.RangeFuncLeaves
import Derived.OwnWalkIn
import Derived.TacticsInMore
import Derived.LoopNIn
import Derived.LoopIn
import Derived.Test.YtpjficjlfibibaaGreatDoorChecked
import Derived.WalkKit
import Derived.ProofKit
import Derived.Below
import Derived.Lib.Hide
namespace Go.Proofs.YtpjficjlfibibaaGreatDoor.syn
open Go.RowKit
set_option linter.unusedVariables false
set_option linter.unusedSimpArgs false
inductive TT where
 | unk
 | ok (p f:Int)
 | bad (a e:Int)
def cvv (c:Int × Int):Value:=.agg #[.int .i64 c.1,.int .i64 c.2]
def TT.v:TT → Value
 | .unk => .agg #[.int .i64 0,.int .i64 0,.bool false,.int .i64 0,.int .i64 0]
 | .ok p f => .agg #[.int .i64 p,.int .i64 f,.bool true,.int .i64 0,.int .i64 0]
 | .bad a e => .agg #[.int .i64 0,.int .i64 0,.bool false,.int .i64 a,.int .i64 e]
abbrev Env:Type:=ByteArray → Option (Int × Int)
def EnvIs (L:List (ByteArray × Value)) (env:Env):Prop:=∀ nm,getS nm L = (env nm).map cvv
def tell1 (env:Env) (k:Int) (nm:ByteArray) (n d a:Int) (src:TT):TT :=
 if k = 1 then match env nm with | some c => .ok c.1 c.2 | none => .unk
 else match src with
  | .ok p f => if k = 2 then .ok p f else if (clock.applyP p f k n d).2.2 = 0 then .ok (clock.applyP p f k n d).1 (clock.applyP p f k n d).2.1 else .bad a (clock.applyP p f k n d).2.2
  | .unk => .unk
  | .bad a e => .bad a e
def tellL (env:Env):PL → TT
 | .nil => .unk
 | .cons k nm n d args a tl => match tell1 env k nm n d a (tellL env args) with
  | .unk => tellL env tl
  | .ok p f => .ok p f
  | .bad a e => .bad a e
def tellE (env:Env) (e:PE):TT:=tell1 env e.k e.nm e.n e.d e.a (tellL env e.args)
def TellSaid (env:Env) (L:List (ByteArray × Value)) (e:PE):Prop:=∀ (w:World) (ad:Option Addr) (cap mb:Nat),AE w e ad cap → MapS w mb L →
 Calls Tryz.prog 88 #[.map (some mb),.agg #[.int .i64 e.k,.string e.nm,.int .i64 e.n,.int .i64 e.d,.slice ad e.args.len cap,.int .i64 e.a]] w fun x w' => x = .returned (tellE env e).v ∧ Below w.heap.size w w'
def FirstSaid (env:Env) (L:List (ByteArray × Value)) (l:PL):Prop:=∀ (w:World) (ad:Option Addr) (cap mb:Nat),AS w l ad → l.len ≤ cap → cap ≤ 9223372036854775807 → MapS w mb L →
 Calls Tryz.prog 135 #[.map (some mb),.slice ad l.len cap] w fun x w' => x = .returned (tellL env l).v ∧ Below w.heap.size w w'
set_option maxRecDepth 100000 in
set_option maxHeartbeats 2000000 in
theorem tell_step {env:Env} {L:List (ByteArray × Value)} (hE:EnvIs L env) (e:PE) (hF:FirstSaid env L e.args):TellSaid env L e:=by
 intro w ad cap mb hae hM
 obtain ⟨k,nm,n,d,args,a⟩:=e
 have hlen:=hae.len
 simp only at hlen hF ⊢
 unfold FirstSaid at hF
 have HA:=hid hae
 have HM:=hid hM
 have HF:=hid hF
 clear hae hM hF
 obtain ⟨r,hr⟩:∃ r,tellE env ⟨k,nm,n,d,args,a⟩ = r:=⟨_,rfl⟩
 rw [hr]
 unfold tellE at hr
 simp only at hr
 by_cases hk1:k = 1
 ·subst hk1
  unfold tell1 at hr;rw [if_pos rfl] at hr
  cases he:env nm with
  | none =>
   rw [he] at hr
   have hg:getS nm L = none:=by rw [hE nm,he];rfl
   subst hr
   clear hE he
   have HG:=hid hg
   clear hg
   go_enter Tryz.func88,Tryz.ntmps88
   go_wp2_with (at_lookup;refine wpList_lookS_no2 clocksMap _ rfl _ _ rfl mb L nm rfl rfl (HM.out.below bq) HG.out ?_)
   refine bodyPost_ret (v:=TT.unk.v) (by simp only [results,Tryz.results88];go_simp;try rfl) rfl ⟨?_,?_⟩
   ·rfl
   ·exact bq
  | some c =>
   rw [he] at hr
   have hg:getS nm L = some (.agg #[.int .i64 c.1,.int .i64 c.2]):=by rw [hE nm,he];rfl
   obtain ⟨c1,c2⟩:=c
   subst hr
   clear hE he
   have HG:=hid hg
   clear hg
   go_enter Tryz.func88,Tryz.ntmps88
   go_wp2_with (at_lookup;refine wpList_lookS_yes2 clocksMap _ rfl _ _ rfl mb L nm _ rfl rfl (HM.out.below bq) HG.out ?_)
   refine bodyPost_ret (v:=(TT.ok c1 c2).v) (by simp only [results,Tryz.results88];go_simp;try rfl) rfl ⟨?_,?_⟩
   ·rfl
   ·exact bq
 ·have hk1':(k == 1) = false:=beq_eq_false_iff_ne.2 hk1
  unfold tell1 at hr;rw [if_neg hk1] at hr
  clear hE
  cases hs:tellL env args with
  | unk =>
   rw [hs] at hr HF
   simp only at hr
   subst hr
   simp only [TT.v] at HF
   clear hk1
   by_cases hk2:k = 2
   ·subst hk2
    go_enter Tryz.func88,Tryz.ntmps88
    repeat' (first | (go_at_call 135;(with_reducible refine (HF.out _ _ _ _ (HA.out.args.below bq) HA.out.len.1 HA.out.len.2 (HM.out.below bq)).mono ?_);rintro x w2 ⟨rfl,hb2⟩;obtain ⟨hc2,hf2⟩:=bcell hb2;have a2:w.heap.size < w2.heap.size:=sz_of hb2 oq;have a3:w.heap.size + 1 < w2.heap.size:=sz_of hb2 oq) | go_values | go_skip | go_guarded | go_step | go_upon | (simp only [Int.not_lt,Int.not_le] at *;go_simp) | (go_values <;> (try go_simp)) | (go_ite <;> go_prune <;> (try go_simp)) | (split <;> (first | (rename_i hx;exact (hx _ rfl).elim) | go_prune)))
    refine bodyPost_ret (v:=TT.unk.v) (by simp only [results,Tryz.results88];go_simp;try rfl) rfl ⟨?_,?_⟩
    ·rfl
    ·exact bq
   ·have hk2':(k == 2) = false:=beq_eq_false_iff_ne.2 hk2
    clear hk2
    go_enter Tryz.func88,Tryz.ntmps88
    repeat' (first | (go_at_call 135;(with_reducible refine (HF.out _ _ _ _ (HA.out.args.below bq) HA.out.len.1 HA.out.len.2 (HM.out.below bq)).mono ?_);rintro x w2 ⟨rfl,hb2⟩;obtain ⟨hc2,hf2⟩:=bcell hb2;have a2:w.heap.size < w2.heap.size:=sz_of hb2 oq;have a3:w.heap.size + 1 < w2.heap.size:=sz_of hb2 oq) | go_values | go_skip | go_guarded | go_step | go_upon | (simp only [Int.not_lt,Int.not_le] at *;go_simp) | (go_values <;> (try go_simp)) | (go_ite <;> go_prune <;> (try go_simp)) | (split <;> (first | (rename_i hx;exact (hx _ rfl).elim) | go_prune)))
    refine bodyPost_ret (v:=TT.unk.v) (by simp only [results,Tryz.results88];go_simp;try rfl) rfl ⟨?_,?_⟩
    ·rfl
    ·exact bq
  | bad a1 e1 =>
   rw [hs] at hr HF
   simp only at hr
   subst hr
   simp only [TT.v] at HF
   clear hk1
   by_cases hk2:k = 2
   ·subst hk2
    go_enter Tryz.func88,Tryz.ntmps88
    repeat' (first | (go_at_call 135;(with_reducible refine (HF.out _ _ _ _ (HA.out.args.below bq) HA.out.len.1 HA.out.len.2 (HM.out.below bq)).mono ?_);rintro x w2 ⟨rfl,hb2⟩;obtain ⟨hc2,hf2⟩:=bcell hb2;have a2:w.heap.size < w2.heap.size:=sz_of hb2 oq;have a3:w.heap.size + 1 < w2.heap.size:=sz_of hb2 oq) | go_values | go_skip | go_guarded | go_step | go_upon | (simp only [Int.not_lt,Int.not_le] at *;go_simp) | (go_values <;> (try go_simp)) | (go_ite <;> go_prune <;> (try go_simp)) | (split <;> (first | (rename_i hx;exact (hx _ rfl).elim) | go_prune)))
    refine bodyPost_ret (v:=(TT.bad a1 e1).v) (by simp only [results,Tryz.results88];go_simp;try rfl) rfl ⟨?_,?_⟩
    ·rfl
    ·exact bq
   ·have hk2':(k == 2) = false:=beq_eq_false_iff_ne.2 hk2
    clear hk2
    go_enter Tryz.func88,Tryz.ntmps88
    repeat' (first | (go_at_call 135;(with_reducible refine (HF.out _ _ _ _ (HA.out.args.below bq) HA.out.len.1 HA.out.len.2 (HM.out.below bq)).mono ?_);rintro x w2 ⟨rfl,hb2⟩;obtain ⟨hc2,hf2⟩:=bcell hb2;have a2:w.heap.size < w2.heap.size:=sz_of hb2 oq;have a3:w.heap.size + 1 < w2.heap.size:=sz_of hb2 oq) | go_values | go_skip | go_guarded | go_step | go_upon | (simp only [Int.not_lt,Int.not_le] at *;go_simp) | (go_values <;> (try go_simp)) | (go_ite <;> go_prune <;> (try go_simp)) | (split <;> (first | (rename_i hx;exact (hx _ rfl).elim) | go_prune)))
    refine bodyPost_ret (v:=(TT.bad a1 e1).v) (by simp only [results,Tryz.results88];go_simp;try rfl) rfl ⟨?_,?_⟩
    ·rfl
    ·exact bq
  | ok p f =>
   rw [hs] at hr HF
   simp only at hr
   simp only [TT.v] at HF
   by_cases hk2:k = 2
   ·subst hk2
    rw [if_pos rfl] at hr
    subst hr
    clear hk1
    go_enter Tryz.func88,Tryz.ntmps88
    repeat' (first | (go_at_call 135;(with_reducible refine (HF.out _ _ _ _ (HA.out.args.below bq) HA.out.len.1 HA.out.len.2 (HM.out.below bq)).mono ?_);rintro x w2 ⟨rfl,hb2⟩;obtain ⟨hc2,hf2⟩:=bcell hb2;have a2:w.heap.size < w2.heap.size:=sz_of hb2 oq;have a3:w.heap.size + 1 < w2.heap.size:=sz_of hb2 oq) | go_values | go_skip | go_guarded | go_step | go_upon | (simp only [Int.not_lt,Int.not_le] at *;go_simp) | (go_values <;> (try go_simp)) | (go_ite <;> go_prune <;> (try go_simp)) | (split <;> (first | (rename_i hx;exact (hx _ rfl).elim) | go_prune)))
    refine bodyPost_ret (v:=(TT.ok p f).v) (by simp only [results,Tryz.results88];go_simp;try rfl) rfl ⟨?_,?_⟩
    ·rfl
    ·exact bq
   ·have hk2':(k == 2) = false:=beq_eq_false_iff_ne.2 hk2
    rw [if_neg hk2] at hr
    have HP:=hid (fun w => clock.apply_any p f k n d w)
    unfold clock.ansT clock.ansC at HP
    generalize clock.applyP p f k n d = r at hr HP
    obtain ⟨r1,r2,r3⟩:=r
    simp only at hr HP
    clear hk1 hk2
    by_cases h0:r3 = 0
    ·subst h0
     rw [if_pos rfl] at hr
     subst hr
     go_enter Tryz.func88,Tryz.ntmps88
     repeat' (first | (go_at_call 135;(with_reducible refine (HF.out _ _ _ _ (HA.out.args.below bq) HA.out.len.1 HA.out.len.2 (HM.out.below bq)).mono ?_);rintro x w2 ⟨rfl,hb2⟩;obtain ⟨hc2,hf2⟩:=bcell hb2;have a2:w.heap.size < w2.heap.size:=sz_of hb2 oq;have a3:w.heap.size + 1 < w2.heap.size:=sz_of hb2 oq) | (go_at_call 124;(with_reducible refine (HP.out _).mono ?_);rintro x w3 ⟨rfl,hb3⟩;obtain ⟨hc3,hf3⟩:=bcell hb3;have a4:w.heap.size < w3.heap.size:=sz_of hb3 oq;have a5:w.heap.size + 1 < w3.heap.size:=sz_of hb3 oq;have a6:w2.heap.size < w3.heap.size:=sz_of hb3 oq) | go_values | go_skip | go_guarded | go_step | go_upon | (simp only [Int.not_lt,Int.not_le] at *;go_simp) | (go_values <;> (try go_simp)) | (go_ite <;> go_prune <;> (try go_simp)) | (split <;> (first | (rename_i hx;exact (hx _ rfl).elim) | go_prune)))
     refine bodyPost_ret (v:=(TT.ok r1 r2).v) (by simp only [results,Tryz.results88];go_simp;try rfl) rfl ⟨?_,?_⟩
     ·rfl
     ·exact bq
    ·rw [if_neg h0] at hr
     subst hr
     have h0':(r3 == 0) = false:=beq_eq_false_iff_ne.2 h0
     clear h0
     go_enter Tryz.func88,Tryz.ntmps88
     repeat' (first | (go_at_call 135;(with_reducible refine (HF.out _ _ _ _ (HA.out.args.below bq) HA.out.len.1 HA.out.len.2 (HM.out.below bq)).mono ?_);rintro x w2 ⟨rfl,hb2⟩;obtain ⟨hc2,hf2⟩:=bcell hb2;have a2:w.heap.size < w2.heap.size:=sz_of hb2 oq;have a3:w.heap.size + 1 < w2.heap.size:=sz_of hb2 oq) | (go_at_call 124;(with_reducible refine (HP.out _).mono ?_);rintro x w3 ⟨rfl,hb3⟩;obtain ⟨hc3,hf3⟩:=bcell hb3;have a4:w.heap.size < w3.heap.size:=sz_of hb3 oq;have a5:w.heap.size + 1 < w3.heap.size:=sz_of hb3 oq;have a6:w2.heap.size < w3.heap.size:=sz_of hb3 oq) | go_values | go_skip | go_guarded | go_step | go_upon | (simp only [Int.not_lt,Int.not_le] at *;go_simp) | (go_values <;> (try go_simp)) | (go_ite <;> go_prune <;> (try go_simp)) | (split <;> (first | (rename_i hx;exact (hx _ rfl).elim) | go_prune)))
     refine bodyPost_ret (v:=(TT.bad a r3).v) (by simp only [results,Tryz.results88];go_simp;try rfl) rfl ⟨?_,?_⟩
     ·rfl
     ·exact bq
def TT.good:TT → Prop
 | .bad _ e => e ≠ 0
 | _ => True
theorem tell1_good {env:Env} {k:Int} {nm:ByteArray} {n d a:Int} {src:TT} (h:src.good):(tell1 env k nm n d a src).good:=by
 unfold tell1
 split
 ·split <;> trivial
 ·cases src with
  | unk => trivial
  | bad a e => exact h
  | ok p f =>
   simp only
   split
   ·trivial
   ·split
    ·trivial
    ·assumption
theorem tellL_good (env:Env):∀ l:PL,(tellL env l).good:=by
 intro l
 induction l with
 | nil => trivial
 | cons k nm n d args a tl ih1 ih2 =>
  have h:=tell1_good (env:=env) (k:=k) (nm:=nm) (n:=n) (d:=d) (a:=a) ih1
  unfold tellL
  generalize tell1 env k nm n d a (tellL env args) = t at h
  cases t with
  | unk => exact ih2
  | ok p f => trivial
  | bad a e => exact h
theorem tellE_good (env:Env) (e:PE):(tellE env e).good:=tell1_good (tellL_good env e.args)
def RestP (wr:World) (ad:Option Addr) (l rest:PL) (i:Nat):Prop :=
 i + rest.len = l.len ∧ rest.sz ≤ l.sz ∧ (rest = .nil ∨ ∃ b o,ad = some ⟨b,o,none⟩ ∧ b < wr.heap.size ∧ AC wr rest b (o + i * 6))
theorem RestP.start {w:World} {ad:Option Addr} {l:PL} (h:AS w l ad):RestP w ad l l 0:=by
 refine ⟨by omega,Nat.le_refl _,?_⟩
 rcases h with h | ⟨b,o,e,hb,h⟩
 ·exact .inl h
 ·exact .inr ⟨b,o,e,hb,by simpa using h⟩
theorem RestP.below {w w':World} {ad:Option Addr} {l rest:PL} {i:Nat} (h:RestP w ad l rest i) (hb:Below w.heap.size w w'):RestP w' ad l rest i:=by
 obtain ⟨h1,h2,h3⟩:=h
 refine ⟨h1,h2,?_⟩
 rcases h3 with h3 | ⟨b,o,e,hlt,h3⟩
 ·exact .inl h3
 ·exact .inr ⟨b,o,e,Nat.lt_of_lt_of_le hlt hb.size,h3.below hb _ _ _ hlt⟩
theorem RestP.tail {w:World} {ad:Option Addr} {l tl args:PL} {k n d a:Int} {nm:ByteArray} {i:Nat} (h:RestP w ad l (.cons k nm n d args a tl) i):RestP w ad l tl (i + 1):=by
 obtain ⟨h1,h2,h3⟩:=h
 refine ⟨by simp only [PL.len] at h1;omega,by simp only [PL.sz] at h2;omega,?_⟩
 rcases h3 with h3 | ⟨b,o,e,hlt,h3⟩
 ·cases h3
 ·obtain ⟨_,_,_,_,_,_,_,ht⟩:=h3
  exact .inr ⟨b,o,e,hlt,by rw [show o + (i + 1) * 6 = o + i * 6 + 6 by omega];exact ht⟩
theorem cells5' {w:World} {b:Nat} {v0 v1 v2 v3 v4:Value} {t:TypeId} (h:w.heap[b]? = some (.cells #[v0,v1,v2,v3,v4] t (0,0))) :
  (w.cell? ⟨b,0,none⟩ = some v0 ∧ w.cell? ⟨b,1,none⟩ = some v1 ∧ w.cell? ⟨b,2,none⟩ = some v2 ∧ w.cell? ⟨b,3,none⟩ = some v3 ∧ w.cell? ⟨b,4,none⟩ = some v4) ∧ ∀ o,w.frozen? ⟨b,o,none⟩ = false:=by
 refine ⟨⟨?_,?_,?_,?_,?_⟩,?_⟩
 all_goals first | (intro o;simp [World.frozen?,h]) | simp [World.cell?,h]
def FsRel (w:World) (env:Env) (L:List (ByteArray × Value)) (l:PL) (ad:Option Addr) (mb:Nat) (v:Value) (wr:World):Prop :=
 ∃ (i:Nat) (rest:PL),v = .int .i64 (i:Int) ∧ RestP wr ad l rest i ∧ tellL env rest = tellL env l ∧
  wr.heap[w.heap.size]? = some (.cells #[.int .i64 0,.int .i64 0,.bool false,.int .i64 0,.int .i64 0] 170 (0,0)) ∧ Below w.heap.size w wr
set_option maxRecDepth 100000 in
set_option maxHeartbeats 2000000 in
theorem first_step {env:Env} {L:List (ByteArray × Value)} (l:PL) (ih:∀ e:PE,e.args.sz < l.sz → TellSaid env L e):FirstSaid env L l:=by
 intro w ad cap mb hs hcap hmx hM
 have HS:=hid hs
 have HM:=hid hM
 have HIH:=hid ih
 clear hs hM ih
 obtain ⟨r,hr⟩:∃ r,tellL env l = r:=⟨_,rfl⟩
 rw [hr]
 have HR:=hid hr
 clear hr
 go_enter Tryz.func135,Tryz.ntmps135
 go_wp2
 go_loopw [10] (fun v wr => Hid (FsRel w env L l ad mb v wr)) (fun i _ => l.len - (intOf i).toNat)
 case atStart => exact ⟨0,l,rfl,(RestP.start HS.out).below bq,rfl,heap_new w _,bq⟩
 case round =>
  obtain ⟨i,rest,rfl,hrest,htl,hbox,hbel⟩:=hrel.out
  clear hrel
  obtain ⟨⟨x0,x1,x2,x3,x4⟩,xf⟩:=cells5' hbox
  have HBOX:=hid hbox
  have HBEL:=hid hbel
  have hil:=hrest.1
  have hbl:=lt_of_block hbox
  have HRS:=hid hrest
  have HTL:=hid htl
  clear hbox hbel hrest htl
  cases rest with
  | nil =>
   have hil':(i:Int) = (l.len:Int):=by simp only [PL.len] at hil;omega
   have h0:=HTL.out
   rw [tellL] at h0
   have h1:r = .unk:=by rw [← HR.out,← h0]
   subst h1
   clear h0
   repeat' (first | go_values | go_skip | go_guarded | go_step | go_upon | (simp only [Int.not_lt,Int.not_le] at *;go_simp) | (go_values <;> (try go_simp)) | (go_ite <;> go_prune <;> (try go_simp)) | (split <;> (first | (rename_i hx;exact (hx _ rfl).elim) | go_prune)))
   refine bodyPost_ret (v:=TT.unk.v) (by simp only [results,Tryz.results135];go_simp;try rfl) rfl ⟨?_,?_⟩
   ·rfl
   ·exact bq
  | cons k1 nm1 n1 d1 args1 a1 tl =>
   have hil':(i:Int) < (l.len:Int):=by simp only [PL.len] at hil;omega
   obtain ⟨b,o,rfl,hb,h0,h1,h2,h3,h5,hn,⟨ad1,cap1,h4,hcap1,hcm1,hd1⟩,ht⟩:=HRS.out.2.2.resolve_left (by intro h;cases h)
   have hsub:=HRS.out.2.1
   simp only [PL.sz] at hsub
   have HC:=hid (HIH.out ⟨k1,nm1,n1,d1,args1,a1⟩ (by show args1.sz < l.sz;omega))
   have HE:=hid (show AE wr ⟨k1,nm1,n1,d1,args1,a1⟩ ad1 cap1 from ⟨hn,⟨hcap1,hcm1⟩,hd1⟩)
   have hgd:=tellE_good env ⟨k1,nm1,n1,d1,args1,a1⟩
   have htl:=HTL.out
   rw [tellL] at htl
   unfold TellSaid at HC
   simp only at HC
   have hte:tellE env ⟨k1,nm1,n1,d1,args1,a1⟩ = tell1 env k1 nm1 n1 d1 a1 (tellL env args1):=rfl
   rw [← hte] at htl
   generalize tellE env ⟨k1,nm1,n1,d1,args1,a1⟩ = t at htl hgd HC
   clear hte ht hn hd1
   cases t with
   | unk =>
    simp only at htl
    simp only [TT.v] at HC
    have HT2:=hid htl
    clear htl hgd
    repeat' (first | (go_at_call 88;(with_reducible refine (HC.out _ _ _ _ (HE.out.below bq) (HM.out.below bq)).mono ?_);rintro x w2 ⟨rfl,hb2⟩;obtain ⟨hc2,hf2⟩:=bcell hb2;have a2:w.heap.size < w2.heap.size:=sz_of hb2 oq;have a3:wr.heap.size < w2.heap.size:=sz_of hb2 oq;have hbx2:=(hb2.block w.heap.size oq).trans ((heap_alloc_old _ _ hbl).trans HBOX.out);obtain ⟨⟨y0,y1,y2,y3,y4⟩,yf⟩:=cells5' hbx2;clear hbx2) | go_values | go_skip | go_guarded | go_step | go_upon | (simp only [Int.not_lt,Int.not_le] at *;go_simp) | (go_values <;> (try go_simp)) | (go_ite <;> go_prune <;> (try go_simp)) | (split <;> (first | (rename_i hx;exact (hx _ rfl).elim) | go_prune)))
    go_roundw
    case rel => exact ⟨i + 1,tl,by go_num,HRS.out.tail.below bq,HT2.out,(Below.block (show Below wr.heap.size wr _ from bq) _ hbl).trans HBOX.out,bq⟩
    case measure => simp [intOf];omega
   | ok p f =>
    simp only at htl
    simp only [TT.v] at HC
    have h1:r = .ok p f:=by rw [← HR.out,← htl]
    subst h1
    clear htl hgd
    repeat' (first | (go_at_call 88;(with_reducible refine (HC.out _ _ _ _ (HE.out.below bq) (HM.out.below bq)).mono ?_);rintro x w2 ⟨rfl,hb2⟩;obtain ⟨hc2,hf2⟩:=bcell hb2;have a2:w.heap.size < w2.heap.size:=sz_of hb2 oq;have a3:wr.heap.size < w2.heap.size:=sz_of hb2 oq;have hbx2:=(hb2.block w.heap.size oq).trans ((heap_alloc_old _ _ hbl).trans HBOX.out);obtain ⟨⟨y0,y1,y2,y3,y4⟩,yf⟩:=cells5' hbx2;clear hbx2) | go_values | go_skip | go_guarded | go_step | go_upon | (simp only [Int.not_lt,Int.not_le] at *;go_simp) | (go_values <;> (try go_simp)) | (go_ite <;> go_prune <;> (try go_simp)) | (split <;> (first | (rename_i hx;exact (hx _ rfl).elim) | go_prune)))
    refine bodyPost_ret (v:=(TT.ok p f).v) (by simp only [results,Tryz.results135];go_simp;try rfl) rfl ⟨?_,?_⟩
    ·rfl
    ·exact bq
   | bad ab eb =>
    simp only at htl
    simp only [TT.v] at HC
    have h1:r = .bad ab eb:=by rw [← HR.out,← htl]
    subst h1
    have heb:(eb == 0) = false:=beq_eq_false_iff_ne.2 hgd
    clear htl hgd
    repeat' (first | (go_at_call 88;(with_reducible refine (HC.out _ _ _ _ (HE.out.below bq) (HM.out.below bq)).mono ?_);rintro x w2 ⟨rfl,hb2⟩;obtain ⟨hc2,hf2⟩:=bcell hb2;have a2:w.heap.size < w2.heap.size:=sz_of hb2 oq;have a3:wr.heap.size < w2.heap.size:=sz_of hb2 oq;have hbx2:=(hb2.block w.heap.size oq).trans ((heap_alloc_old _ _ hbl).trans HBOX.out);obtain ⟨⟨y0,y1,y2,y3,y4⟩,yf⟩:=cells5' hbx2;clear hbx2) | go_values | go_skip | go_guarded | go_step | go_upon | (simp only [Int.not_lt,Int.not_le] at *;go_simp) | (go_values <;> (try go_simp)) | (go_ite <;> go_prune <;> (try go_simp)) | (split <;> (first | (rename_i hx;exact (hx _ rfl).elim) | go_prune)))
    refine bodyPost_ret (v:=(TT.bad ab eb).v) (by simp only [results,Tryz.results135];go_simp;try rfl) rfl ⟨?_,?_⟩
    ·rfl
    ·exact bq
theorem told_any {env:Env} {L:List (ByteArray × Value)} (hE:EnvIs L env):∀ (N:Nat),(∀ l:PL,l.sz < N → FirstSaid env L l) ∧ (∀ e:PE,e.args.sz < N → TellSaid env L e):=by
 intro N
 induction N with
 | zero => exact ⟨fun l h => absurd h (Nat.not_lt_zero _),fun e h => absurd h (Nat.not_lt_zero _)⟩
 | succ N ih =>
  have h1:∀ l:PL,l.sz < N + 1 → FirstSaid env L l:=fun l h => first_step l (fun e he => ih.2 e oq)
  exact ⟨h1,fun e h => tell_step hE e (h1 _ h)⟩
theorem tell_any {env:Env} {L:List (ByteArray × Value)} (hE:EnvIs L env) (e:PE):TellSaid env L e:=(told_any hE _).2 e (Nat.lt_succ_self _)
theorem getS_put (k:ByteArray) (v:Value) (nm:ByteArray):∀ L:List (ByteArray × Value),getS nm (putS k v L) = if nm = k then some v else getS nm L:=by
 intro L
 induction L with
 | nil => unfold putS getS;rfl
 | cons p L ih =>
  unfold putS
  by_cases hk:k = p.1
  ·rw [if_pos hk]
   unfold getS
   by_cases h:nm = k
   ·rw [if_pos h,if_pos h]
   ·rw [if_neg h,if_neg h,if_neg (by rw [← hk];exact h)]
  ·rw [if_neg hk]
   unfold getS
   by_cases h:nm = p.1
   ·rw [if_pos h,if_pos h,if_neg (by rw [h];exact fun e => hk e.symm)]
   ·rw [if_neg h,if_neg h];exact ih
theorem putS_new (k:ByteArray) (v:Value):∀ L:List (ByteArray × Value),getS k L = none → (putS k v L).length = L.length + 1:=by
 intro L
 induction L with
 | nil => intro _;rfl
 | cons p L ih =>
  intro h
  unfold getS at h
  by_cases hk:k = p.1
  ·rw [if_pos hk] at h;cases h
  ·rw [if_neg hk] at h
   unfold putS
   rw [if_neg hk,List.length_cons,ih h,List.length_cons]
def upd (env:Env) (k:ByteArray) (c:Int × Int):Env:=fun nm => if nm = k then some c else env nm
theorem EnvIs.put {L:List (ByteArray × Value)} {env:Env} (h:EnvIs L env) (k:ByteArray) (c:Int × Int):EnvIs (putS k (cvv c) L) (upd env k c):=by
 intro nm
 rw [getS_put]
 unfold upd
 by_cases hk:nm = k
 ·rw [if_pos hk,if_pos hk];rfl
 ·rw [if_neg hk,if_neg hk];exact h nm
def mapsz (w:World) (mb:Nat):Nat:=match w.heap[mb]? with | some (.map arr _) => arr.size | _ => 0
theorem MapS.size {w:World} {mb:Nat} {L:List (ByteArray × Value)} (h:MapS w mb L):mapsz w mb = L.length:=by
 obtain ⟨arr,clock,h1,h2⟩:=h
 unfold mapsz
 rw [h1]
 have:=congrArg List.length h2
 simpa using this
theorem FlC.cells {w:World} {b o:Nat} {nm nm1:ByteArray} {k1 n1 d1 a1 fa:Int} {args1:PL} (h:FlC w b o ⟨nm,⟨k1,nm1,n1,d1,args1,a1⟩,fa⟩):∃ ad cap,
  w.cell? ⟨b,o,none⟩ = some (.string nm) ∧ w.cell? ⟨b,o + 1,none⟩ = some (.int .i64 k1) ∧ w.cell? ⟨b,o + 2,none⟩ = some (.string nm1) ∧ w.cell? ⟨b,o + 3,none⟩ = some (.int .i64 n1) ∧ w.cell? ⟨b,o + 4,none⟩ = some (.int .i64 d1) ∧
  w.cell? ⟨b,o + 5,none⟩ = some (.slice ad args1.len cap) ∧ w.cell? ⟨b,o + 6,none⟩ = some (.int .i64 a1) ∧ w.cell? ⟨b,o + 7,none⟩ = some (.int .i64 fa) ∧ AE w ⟨k1,nm1,n1,d1,args1,a1⟩ ad cap ∧ (nm.size ≤ 9223372036854775807 ∧ I64 fa):=by
 obtain ⟨x0,⟨ad1,cap1,x1,x2,x3,x4,x5,x6,hae⟩,x7,hfn⟩:=h
 exact ⟨ad1,cap1,x0,x1,x2,x3,x4,x5,x6,x7,hae,hfn⟩
theorem drop_fl {l:List FL} {i:Nat} (h:i < l.length):l.drop i = l[i] :: l.drop (i + 1):=by rw [List.drop_eq_getElem_cons h]
theorem MapS.upon {w w':World} {mb r:Nat} {L:List (ByteArray × Value)} (h:MapS w mb L) (hu:Upon r w w') (hne:mb ≠ r):MapS w' mb L:=by
 obtain ⟨arr,clock,h1,h2⟩:=h
 exact ⟨arr,clock,(hu.block mb (lt_of_block h1) hne).trans h1,h2⟩
structure FW (W0 w wr:World) (mb:Nat) (L:List (ByteArray × Value)) (env:Env):Prop where
 upon:Upon mb w wr
 map:MapS wr mb L
 env:EnvIs L env
def isT:Value → Nat
 | .bool true => 1
 | _ => 0
def tellO (nm:ByteArray):List (ByteArray × Int) → Option Value
 | [] => none
 | p :: l => if nm = p.1 then some (.int .i64 p.2) else tellO nm l
theorem tellO_app (nm:ByteArray) (p:ByteArray × Int):∀ l,tellO nm (l ++ [p]) = if tellO nm l = none then (if nm = p.1 then some (.int .i64 p.2) else none) else tellO nm l
 | [] => by simp [tellO]
 | q :: l => by
  rw [List.cons_append]
  unfold tellO
  by_cases h:nm = q.1
  ·simp [h]
  ·rw [if_neg h,if_neg h,tellO_app nm p l]
def tellP (ps:List ByteArray) (al:List Int) (nm:ByteArray):Int:=((ps.zip al).find? (fun p => nm = p.1)).elim 0 (·.2)
theorem tellO_tellP (nm:ByteArray):∀ l:List (ByteArray × Int),(tellO nm l).getD (.int .i64 0) = .int .i64 ((l.find? (fun p => nm = p.1)).elim 0 (·.2))
 | [] => rfl
 | p :: l => by
  unfold tellO
  by_cases h:nm = p.1
  ·simp [h]
  ·rw [if_neg h,tellO_tellP nm l]
   simp [h]
def RowL {α:Type} (w:World) (mk:α → Value) (ad:Option Addr) (l:List α):Prop:=l = [] ∨ ∃ b o,ad = some ⟨b,o,none⟩ ∧ b < w.heap.size ∧ ∀ (i:Nat) (x:α),l[i]? = some x → w.cell? ⟨b,o + i,none⟩ = some (mk x)
theorem RowL.keep {α:Type} {w w':World} {mk:α → Value} {ad:Option Addr} {l:List α} (h:RowL w mk ad l) (hk:∀ b,b < w.heap.size → w'.heap[b]? = w.heap[b]?):RowL w' mk ad l:=by
 rcases h with h | ⟨b,o,e,hb,hc⟩
 ·exact .inl h
 ·exact .inr ⟨b,o,e,lt_of_block ((hk b hb).trans (Array.getElem?_eq_getElem hb)),fun i x hx => (World.cell?_of_block (w:=w) (a:=⟨b,o + i,none⟩) (hk b hb)).trans (hc i x hx)⟩
set_option maxRecDepth 100000 in
set_option maxHeartbeats 8000000 in
theorem teller_any {w:World} (ps:List ByteArray) (al:List Int) (pa:Option Addr) (pc:Nat) (aa:Option Addr) (ac:Nat) (hp:RowL w Value.string pa ps) (ha:RowL w (Value.int .i64) aa al) (hpl:ps.length ≤ 100000) (hal:al.length ≤ 100000) :
  Calls Tryz.prog 178 #[.slice pa ps.length pc,.slice aa al.length ac] w fun y w' => ∃ tb ma La,y = .returned (.func (.func 193) #[] #[.pointer (some ⟨tb,0,none⟩)]) ∧ w.heap.size ≤ tb ∧ w.heap.size ≤ ma ∧ w'.heap[tb]? = some (.cells #[.map (some ma)] 289 (0,0)) ∧ MapS w' ma La ∧ TV La (tellP ps al) ∧ Below w.heap.size w w':=by
 have HP:=hid hp
 have HA:=hid ha
 obtain ⟨m,hm⟩:∃ m,min ps.length al.length = m:=⟨_,rfl⟩
 have hmin:min (ps.length:Int) (al.length:Int) = (m:Int):=by omega
 have hmk:=fun w => run_makeMap (P:=Tryz.prog) 289 w
 have HMW:=hid (MapS.new w)
 have HHW:=hid (heap_new w (.map #[] 0))
 clear hp ha
 go_enter Tryz.func178,Tryz.ntmps178
 go_wp2
 go_loopw [15] (fun s15 wr => Hid (∃ i La,s15 = .int .i64 ((i:Nat):Int) ∧ i ≤ m ∧ MapS wr w.heap.size La ∧ (∀ nm,getS nm La = tellO nm ((ps.zip al).take i)) ∧ wr.heap[w.heap.size + 1]? = some (.cells #[.map (some w.heap.size)] 289 (0,0)) ∧ Below w.heap.size w wr)) (fun s _ => m - (intOf s).toNat)
 case atStart =>
  refine ⟨0,[],rfl,Nat.zero_le _,HMW.out.below ((Below.refl _ _).alloc (Nat.le_refl _) _),fun nm => rfl,?_,((Below.refl _ _).alloc (Nat.le_refl _) _).alloc (by simp) _⟩
  have h:=heap_new (w.alloc (.map #[] 0)) (.cells #[.map (some w.heap.size)] 289)
  rwa [World.size_alloc] at h
 case round =>
  obtain ⟨wo,rfl⟩:∃ wo:World,wo = wr:=⟨_,rfl⟩
  obtain ⟨i,La,rfl,hi,hmap,hget,hbox,hbel⟩:=hrel.out
  clear hrel
  have HM:=hid hmap
  have HG:=hid hget
  have HBX:=hid hbox
  have HBE:=hid hbel
  by_cases him:i < m
  ·have h1:(i:Int) < (m:Int):=by omega
   have hip:i < ps.length:=by omega
   have hia:i < al.length:=by omega
   obtain ⟨k,hk⟩:∃ k,ps[i] = k:=⟨_,rfl⟩
   obtain ⟨v,hv⟩:∃ v,al[i] = v:=⟨_,rfl⟩
   have hzip:(ps.zip al)[i]? = some (k,v):=by rw [List.getElem?_zip_eq_some];exact ⟨by rw [← hk];exact List.getElem?_eq_getElem hip,by rw [← hv];exact List.getElem?_eq_getElem hia⟩
   have htake:(ps.zip al).take (i + 1) = (ps.zip al).take i ++ [(k,v)]:=by rw [List.take_add_one,hzip];rfl
   obtain ⟨bp,op,rfl,hbp,hcp⟩:=HP.out.resolve_left (fun e => by rw [e] at hip;simp at hip)
   obtain ⟨ba,oa,rfl,hba,hca⟩:=HA.out.resolve_left (fun e => by rw [e] at hia;simp at hia)
   have cp:wo.cell? ⟨bp,op + i,none⟩ = some (.string k):=(World.cell?_of_block (w:=w) (a:=⟨bp,op + i,none⟩) (hbel.block bp hbp)).trans (hcp i k (by rw [← hk];exact List.getElem?_eq_getElem hip))
   have ca:wo.cell? ⟨ba,oa + i,none⟩ = some (.int .i64 v):=(World.cell?_of_block (w:=w) (a:=⟨ba,oa + i,none⟩) (hbel.block ba hba)).trans (hca i v (by rw [← hv];exact List.getElem?_eq_getElem hia))
   have cb:=cells1k hbox
   have i0:(0:Int) ≤ (i:Int):=by omega
   have i1:(i:Int) < (ps.length:Int):=by omega
   have i2:(i:Int) < (al.length:Int):=by omega
   have HTK:=hid htake
   clear hmap hget hbox hbel hzip htake hk hv hcp hca
   go_upto_region 5 with fail
   have hlk:=map_lookS argsMap (show MapS wo.drew w.heap.size La from HM.out) k true
   cases hg:getS k La with
   | some v0 =>
    rw [hg] at hlk
    simp only [Option.getD,Option.isSome,if_true] at hlk
    have HGV:=hid hg
    go_region
    all_goals go_wp2
    refine ⟨hid ⟨i + 1,La,by rw [show ((i + 1:Nat):Int) = (i:Int) + 1 by omega],by omega,HM.out,fun nm => ?_,HBX.out,HBE.out.drew⟩,?_⟩
    ·rw [HTK.out,tellO_app,← HG.out nm]
     by_cases hn:nm = k
     ·subst hn
      rw [HGV.out,if_neg (by simp)]
     ·rw [if_neg hn]
      by_cases hz:getS nm La = none
      ·rw [if_pos hz,hz]
      ·rw [if_neg hz]
    ·show m - ((i:Int) + 1).toNat < m - (i:Int).toNat
     omega
   | none =>
    rw [hg] at hlk
    simp only [Option.getD,Option.isSome,if_true] at hlk
    obtain ⟨arr,clock,hput,hm2⟩:=map_putS argsMap (show MapS wo.drew.drew w.heap.size La from HM.out) k (.int .i64 v)
    have HM2:=hid hm2
    have HGV:=hid hg
    clear hm2
    go_region
    all_goals go_upto_region 7 with fail
    all_goals go_region
    all_goals go_wp2
    refine ⟨hid ⟨i + 1,putS k (.int .i64 v) La,by rw [show ((i + 1:Nat):Int) = (i:Int) + 1 by omega],by omega,HM2.out,fun nm => ?_,?_,below_putM HBE.out.drew.drew (Nat.le_refl _) _⟩,?_⟩
    ·rw [getS_put,HTK.out,tellO_app,← HG.out nm]
     by_cases hn:nm = k
     ·subst hn
      rw [HGV.out,if_pos rfl,if_pos rfl]
     ·rw [if_neg hn,if_neg hn]
      by_cases hz:getS nm La = none
      ·rw [if_pos hz,hz]
      ·rw [if_neg hz]
    ·show (wo.heap.setIfInBounds w.heap.size _)[w.heap.size + 1]? = _
     rw [Array.getElem?_setIfInBounds_ne oq]
     exact HBX.out
    ·show m - ((i:Int) + 1).toNat < m - (i:Int).toNat
     omega
  ·have h1:¬ (i:Int) < (m:Int):=by omega
   clear hmap hget hbox hbel
   go_wp2
   go_ret
   refine ⟨_,rfl,by omega,_,Nat.le_refl _,HBX.out,La,HM.out,fun nm => ?_,HBE.out⟩
   rw [HG.out nm,List.take_of_length_le (by rw [List.length_zip];omega),tellO_tellP]
   rfl
def B64 (x:Int):Prop:=-9223372036854775808 ≤ x ∧ x ≤ 9223372036854775807
def PL.n64:PL → Prop
 | .nil => True
 | .cons _ _ n _ args _ tl => B64 n ∧ args.n64 ∧ tl.n64
def PE.n64 (e:PE):Prop:=B64 e.n ∧ e.args.n64
theorem wrap64_b (n:Int):B64 (wrap64 n):=by unfold B64 wrap64;omega
theorem opP_b (s:List UInt8) {a b:Int} (ha:B64 a) (hb:B64 b):B64 (body.opP s a b):=by
 have h0:B64 0:=by unfold B64;omega
 have h1:B64 1:=by unfold B64;omega
 unfold body.opP
 repeat' split
 all_goals first
  | exact wrap64_b _
  | exact h0
  | exact h1
  | skip
 have h2:=Int.natAbs_tmod a b
 have h3:a.natAbs % b.natAbs < b.natAbs:=Nat.mod_lt _ oq
 unfold B64 at *
 omega
theorem evA_b {T:ByteArray → Int} (hT:∀ nm,B64 (T nm)):∀ (l:PL),l.n64 → ∀ i,B64 (evA T l i)
 | .nil,_,_ => by unfold evA B64;omega
 | .cons k nm n d args a tl,h,0 => by
  have ih:=evA_b hT args h.2.1
  unfold evA
  split
  ·unfold opE
   split
   ·split
    ·exact ih 1
    ·exact ih 2
   ·exact opP_b _ (ih 0) (ih 1)
  ·unfold sgE
   split
   ·exact hT _
   ·split
    ·exact h.1
    ·unfold B64;omega
 | .cons _ _ _ _ _ _ tl,h,i + 1 => evA_b hT tl h.2.2 i
theorem n64_at:∀ (l:PL) (i:Nat) (f:PE),l.n64 → l.at i = some f → f.n64
 | .cons k nm n d args a tl,0,f,h,e => by injection e with e;subst e;exact ⟨h.1,h.2.1⟩
 | .cons _ _ _ _ _ _ tl,i + 1,f,h,e => n64_at tl i f h.2.2 e
theorem tellP_b (ps:List ByteArray) {al:List Int} (h:∀ x ∈ al,B64 x) (nm:ByteArray):B64 (tellP ps al nm):=by
 unfold tellP
 cases hf:(ps.zip al).find? (fun p => nm = p.1) with
 | none => show B64 0;unfold B64;omega
 | some p => exact h p.2 (List.of_mem_zip (List.mem_of_find?_eq_some hf)).2
set_option maxRecDepth 100000 in
set_option maxHeartbeats 8000000 in
theorem eval_any {w:World} (nn:ByteArray) (ps:List ByteArray) (pa:Option Addr) (pc:Nat) (x2 x9:Int) (e:PE) (ad:Option Addr) (cap:Nat) (al:List Int) (aa:Option Addr) (ac:Nat) (hp:RowL w Value.string pa ps) (ha:RowL w (Value.int .i64) aa al) (hpl:ps.length ≤ 100000) (hal:al.length ≤ 100000)
  (hcap:e.args.len ≤ cap) (hs:SlA w (fun _ => True) e.args ad) (hsz:e.sz ≤ 1000) (hn:e.n64) (h64:∀ x ∈ al,B64 x) :
  Calls Tryz.prog 146 #[.agg #[.string nn,.slice pa ps.length pc,.int .i64 x2,.int .i64 e.k,.string e.nm,.int .i64 e.n,.int .i64 e.d,.slice ad e.args.len cap,.int .i64 e.a,.int .i64 x9],.slice aa al.length ac] w fun y w' => y = .returned (.int .i64 (evE (tellP ps al) e)) ∧ Below w.heap.size w w':=by
 obtain ⟨k,nm,n,d,args,a⟩:=e
 have HT:=hid (fun W (hb:Below w.heap.size w W) => teller_any (w:=W) ps al pa pc aa ac (hp.keep hb.block) (ha.keep hb.block) hpl hal)
 have HS:=hid hs
 have HN:=hid hn
 have H64:=hid h64
 have hmk:=fun w => run_makeMap (P:=Tryz.prog) 273 w
 clear hp ha hs hn h64
 go_enter Tryz.func146,Tryz.ntmps146
 go_upto_region 1 with fail
 obtain ⟨W,hW⟩:∃ W,w.alloc (.cells #[.string nn,.slice pa ps.length pc,.int .i64 x2,.int .i64 k,.string nm,.int .i64 n,.int .i64 d,.slice ad args.len cap,.int .i64 a,.int .i64 x9] 97) = W:=⟨_,rfl⟩
 have hbx:=heap_new w (.cells #[.string nn,.slice pa ps.length pc,.int .i64 x2,.int .i64 k,.string nm,.int .i64 n,.int .i64 d,.slice ad args.len cap,.int .i64 a,.int .i64 x9] 97)
 have hb0:Below w.heap.size w W:=by rw [← hW];exact (Below.refl _ _).alloc (Nat.le_refl _) _
 have hsW:W.heap.size = w.heap.size + 1:=by rw [← hW];simp
 rw [hW] at hbx
 rw [hW]
 clear hW
 have q1:W.cell? ⟨w.heap.size,1,none⟩ = some (.slice pa ps.length pc):=by simp [World.cell?,hbx]
 have hst:=fun (a:Addr) (fn:Fn) c b (w:World) => run_store Tryz.prog w a (.func fn c b) .plain rfl
 have HBX:=hid hbx
 have HB0:=hid hb0
 clear hbx hb0
 go_upto_region 2 with (go_at_call 178;refine (HT.out _ HB0.out).mono ?_;rintro y w1 ⟨tb,ma,La,rfl,htb,hma,hbt,hms,htv,hb1⟩;have HB1:=hid hb1;have HBT:=hid hbt;have HMS:=hid hms;have HTV:=hid htv;have hs1:=hb1.size;have hmlt:=hms.lt;have htlt:=lt_of_block hbt;clear hbt hms htv hb1)
 obtain ⟨rb,hrb⟩:∃ rb,w1.heap.size + 1 = rb:=⟨_,rfl⟩
 obtain ⟨W3,hW3⟩:∃ W3,(w1.alloc (.map #[] 0)).alloc (.cells #[.func (.func 193) #[] #[.pointer (some ⟨tb,0,none⟩)],.map (some w1.heap.size)] 275) = W3:=⟨_,rfl⟩
 have h3:W3.heap[rb]? = some (.cells #[.func (.func 193) #[] #[.pointer (some ⟨tb,0,none⟩)],.map (some w1.heap.size)] 275 (0,0)):=by
  have h:=heap_new (w1.alloc (.map #[] 0)) (.cells #[.func (.func 193) #[] #[.pointer (some ⟨tb,0,none⟩)],.map (some w1.heap.size)] 275)
  rw [World.size_alloc,hrb,hW3] at h
  exact h
 have hb3:Below w1.heap.size w1 W3:=by rw [← hW3];exact ((Below.refl _ _).alloc (Nat.le_refl _) _).alloc (by simp) _
 have hm3:MapQ W3 w1.heap.size []:=by
  refine (MapQ.new w1).keep ?_
  rw [← hW3]
  exact Below.heap_alloc _ _ _ (by simp)
 have hbW:Below W.heap.size W W3:=HB1.out.trans (hb3.mono hs1)
 have hbw:Below w.heap.size w W3:=HB0.out.trans (hbW.mono HB0.out.size)
 have HRK:=hid (show RkM W3 rb tb ma w1.heap.size La [] from ⟨h3,(hb3.block tb htlt).trans HBT.out,HMS.out.below hb3,hm3,fun p hp => by cases hp⟩)
 have hnb:=(hbW.block w.heap.size oq).trans HBX.out
 have HAT:=hid (show At W3 ⟨w.heap.size,3,none⟩ ⟨k,nm,n,d,args,a⟩ from ⟨w.heap.size,3,ad,cap,rfl,⟨_,_,hnb⟩,by simp [World.cell?,hnb],by simp [World.cell?,hnb],by simp [World.cell?,hnb],by simp [World.cell?,hnb],by simp [World.cell?,hnb],by simp [World.cell?,hnb],hcap,HS.out.keep ⟨hbw.size,fun b _ hb => hbw.block b hb⟩⟩)
 have HVA:=hid (value_any HRK.out oq HTV.out HAT.out hsz (R:=PE.n64) HN.out (fun e i f he hf => n64_at _ _ _ he.2 hf) (fun e he i => evA_b (tellP_b ps H64.out) _ he.2 i))
 have HBW3:=hid hbw
 have hw3:=hbw.size
 have hws:w.heap.size ≤ w1.heap.size:=by omega
 rw [hW3,hrb]
 clear hW3 h3 hb3 hm3 hbW hbw hnb hmk hst HT HS q1
 go_wp2_with (go_at_call 179;refine HVA.out.mono ?_;rintro y w4 ⟨rfl,hb4⟩;have HB4:=hid hb4;clear hb4)
 go_ret
 exact ⟨rfl,HBW3.out.trans (HB4.out.below hw3 (fun k e => by omega))⟩
theorem room_none {F:Fence} (hd:F.depth = none) (k:Nat):F.room k:=fun d h => by rw [hd] at h;cases h
theorem YieldAt.deep {F:Fence} (hd:F.depth = none) {m:Nat} (m':Nat) {P:Program} {l:Nat} {args:Array Value} {W:World} {R:Ending → World → Prop} (h:YieldAt F m P l args W R):YieldAt F m' P l args W R:=by
 obtain ⟨fn,tmps,assign,body,hy,hR⟩:=h
 exact ⟨fn,tmps,assign,body,hy,⟨hR.1,fun c cs _ => hR.2 c cs (room_none hd _)⟩⟩
structure KC (n₀:Nat) (W W':World):Prop where
 below:Below n₀ W W'
 same:∀ (k:Nat) (o:Obj),W.heap[k]? = some o → o.isCells = true → W'.heap[k]? = some o
theorem KC.refl (n₀:Nat) (W:World):KC n₀ W W:=⟨Below.refl _ _,fun _ _ h _ => h⟩
theorem KC.trans {n₀:Nat} {A B C:World} (h:KC n₀ A B) (k:KC n₀ B C):KC n₀ A C:=⟨h.below.trans k.below,fun i o hi ho => k.same i o (h.same i o hi ho) ho⟩
theorem KC.alloc {n₀:Nat} {A W:World} (h:KC n₀ A W) (hn:n₀ ≤ W.heap.size) (o:Obj):KC n₀ A (W.alloc o) :=
 h.trans ⟨(Below.refl _ _).alloc hn _,fun k x hk _ => (Below.heap_alloc W o k (Array.getElem?_eq_some_iff.1 hk).1).trans hk⟩
theorem KC.putObj {n₀:Nat} (W:World) (l:Nat) (o o':Obj) (hl:n₀ ≤ l) (h:W.heap[l]? = some o) (hc:o.isCells = false):KC n₀ W (W.putObj l o') :=
 ⟨⟨rfl,rfl,rfl,by simp,fun k hk => World.putObj_heap_other (fun e => by omega)⟩,fun k x hk hx => (World.putObj_heap_other (fun e => by subst e;rw [h] at hk;injection hk with hk;subst hk;rw [hc] at hx;cases hx)).trans hk⟩
theorem KC.of_below {n₀:Nat} {A W W':World} (h:KC n₀ A W) (hb:Below W.heap.size W W') (hn:n₀ ≤ W.heap.size):KC n₀ A W' :=
 h.trans ⟨hb.mono hn,fun k o hk _ => (hb.block k (lt_of_block hk)).trans hk⟩
theorem abide_alloc {β:Type} {B:Nat} {J:β → World → Prop} (h:AbidesFrom B J) {s:β} {W:World} (hs:J s W) (o:Obj):J s (W.alloc o) :=
 h s W _ none hs (World.grownBy_alloc W o none) (fun r e => by cases e)
end Go.Proofs.YtpjficjlfibibaaGreatDoor.syn
namespace Go.Proofs.YtpjficjlfibibaaGreatDoor.arith
open Go.RowKit
set_option linter.unusedVariables false
def gcdOf (a b:Int):Int:=((Nat.gcd a.toNat b.toNat:Nat):Int)
def IntsAt (w:World) (v:Value) (l:List Int):Prop :=
 (∃ a cap,v = .slice a 0 cap ∧ l = []) ∨ ∃ b off cap,v = .slice (some ⟨b,off,none⟩) l.length cap ∧ ∀ k,k < l.length → w.cell? ⟨b,off + k,none⟩ = some (.int .i64 (l.getD k 0))
theorem quo_le {c x:Int} (hc:1 ≤ c):c / gcdOf c x ≤ c:=Int.ediv_le_self _ (by omega)
theorem IntsAt.below {w w1:World} {v:Value} {l:List Int} (h:IntsAt w v l) (hb:Below w.heap.size w w1):IntsAt w1 v l:=by
 rcases h with ⟨a,cap,h1,h2⟩ | ⟨b,off,cap,h1,h2⟩
 ·exact .inl ⟨a,cap,h1,h2⟩
 ·refine .inr ⟨b,off,cap,h1,fun k hk => ?_⟩
  have hc:=h2 k hk
  rw [hb.cell (p:=⟨b,off + k,none⟩) (block_lt_of_cell hc),hc]
end Go.Proofs.YtpjficjlfibibaaGreatDoor.arith
