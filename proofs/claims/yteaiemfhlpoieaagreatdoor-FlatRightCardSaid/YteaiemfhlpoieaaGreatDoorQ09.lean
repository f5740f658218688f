/-
  Parts of the proof: Chk1, Chk2, Chk3, Chk4, Chk5.
-/
import Derived.Test.YteaiemfhlpoieaaGreatDoorQ01
import Derived.Test.YteaiemfhlpoieaaGreatDoorQ08
import Derived.Test.YteaiemfhlpoieaaGreatDoorQ02
namespace Go.Proofs.YteaiemfhlpoieaaGreatDoor.syn
open Go.RowKit
set_option linter.unusedVariables false
set_option linter.unusedSimpArgs false
inductive TT where
  | unk
  | ok (p f:Int)
  | bad (a e:Int)
def cvv (c:Int × Int):Value:=.agg #[.int .i64 c.1,.int .i64 c.2]
def TT.v:TT → Value
  | .unk => .agg #[.int .i64 0,.int .i64 0,.bool false,.int .i64 0,.int .i64 0]
  | .ok p f => .agg #[.int .i64 p,.int .i64 f,.bool true,.int .i64 0,.int .i64 0]
  | .bad a e => .agg #[.int .i64 0,.int .i64 0,.bool false,.int .i64 a,.int .i64 e]
abbrev Env:Type:=ByteArray → Option (Int × Int)
def EnvIs (L:List (ByteArray × Value)) (env:Env):Prop:=∀ nm,getS nm L = (env nm).map cvv
def tell1 (env:Env) (k:Int) (nm:ByteArray) (n d a:Int) (src:TT):TT :=
  if k = 1 then match env nm with | some c => .ok c.1 c.2 | none => .unk
  else match src with
    | .ok p f => if k = 2 then .ok p f else if (clock.applyP p f k n d).2.2 = 0 then .ok (clock.applyP p f k n d).1 (clock.applyP p f k n d).2.1 else .bad a (clock.applyP p f k n d).2.2
    | .unk => .unk
    | .bad a e => .bad a e
def tellL (env:Env):PL → TT
  | .nil => .unk
  | .cons k nm n d args a tl => match tell1 env k nm n d a (tellL env args) with
    | .unk => tellL env tl
    | .ok p f => .ok p f
    | .bad a e => .bad a e
def tellE (env:Env) (e:PE):TT:=tell1 env e.k e.nm e.n e.d e.a (tellL env e.args)
def TellSaid (env:Env) (L:List (ByteArray × Value)) (e:PE):Prop:=∀ (w:World) (ad:Option Addr) (cap mb:Nat),AE w e ad cap → MapS w mb L →
  Calls Tryz.prog 54 #[.map (some mb),.agg #[.int .i64 e.k,.string e.nm,.int .i64 e.n,.int .i64 e.d,.slice ad e.args.len cap,.int .i64 e.a]] w fun x w' => x = .returned (tellE env e).v ∧ Below w.heap.size w w'
def FirstSaid (env:Env) (L:List (ByteArray × Value)) (l:PL):Prop:=∀ (w:World) (ad:Option Addr) (cap mb:Nat),AS w l ad → l.len ≤ cap → cap ≤ 9223372036854775807 → MapS w mb L →
  Calls Tryz.prog 75 #[.map (some mb),.slice ad l.len cap] w fun x w' => x = .returned (tellL env l).v ∧ Below w.heap.size w w'
set_option maxRecDepth 100000 in
set_option maxHeartbeats 2000000 in
theorem tell_step {env:Env} {L:List (ByteArray × Value)} (hE:EnvIs L env) (e:PE) (hF:FirstSaid env L e.args):TellSaid env L e:=by
  intro w ad cap mb hae hM
  obtain ⟨k,nm,n,d,args,a⟩:=e
  have hlen:=hae.len
  simp only at hlen hF ⊢
  unfold FirstSaid at hF
  have HA:=hid hae
  have HM:=hid hM
  have HF:=hid hF
  clear hae hM hF
  obtain ⟨r,hr⟩:∃ r,tellE env ⟨k,nm,n,d,args,a⟩ = r:=⟨_,rfl⟩
  rw [hr]
  unfold tellE at hr
  simp only at hr
  by_cases hk1:k = 1
  · subst hk1
    unfold tell1 at hr;rw [if_pos rfl] at hr
    cases he:env nm with
    | none =>
      rw [he] at hr
      have hg:getS nm L = none:=by rw [hE nm,he];rfl
      subst hr
      clear hE he
      have HG:=hid hg
      clear hg
      go_enter Tryz.func54,Tryz.ntmps54
      go_wp2_with (at_lookup;refine wpList_lookS_no2 clocksMap _ rfl _ _ rfl mb L nm rfl rfl (HM.out.below bq) HG.out ?_)
      refine bodyPost_ret (v:=TT.unk.v) (by simp only [results,Tryz.results54];go_simp;try rfl) rfl ⟨?_,?_⟩
      · rfl
      · exact bq
    | some c =>
      rw [he] at hr
      have hg:getS nm L = some (.agg #[.int .i64 c.1,.int .i64 c.2]):=by rw [hE nm,he];rfl
      obtain ⟨c1,c2⟩:=c
      subst hr
      clear hE he
      have HG:=hid hg
      clear hg
      go_enter Tryz.func54,Tryz.ntmps54
      go_wp2_with (at_lookup;refine wpList_lookS_yes2 clocksMap _ rfl _ _ rfl mb L nm _ rfl rfl (HM.out.below bq) HG.out ?_)
      refine bodyPost_ret (v:=(TT.ok c1 c2).v) (by simp only [results,Tryz.results54];go_simp;try rfl) rfl ⟨?_,?_⟩
      · rfl
      · exact bq
  · have hk1':(k == 1) = false:=beq_eq_false_iff_ne.2 hk1
    unfold tell1 at hr;rw [if_neg hk1] at hr
    clear hE
    cases hs:tellL env args with
    | unk =>
      rw [hs] at hr HF
      simp only at hr
      subst hr
      simp only [TT.v] at HF
      clear hk1
      by_cases hk2:k = 2
      · subst hk2
        go_enter Tryz.func54,Tryz.ntmps54
        repeat' (first | (go_at_call 75;(with_reducible refine (HF.out _ _ _ _ (HA.out.args.below bq) HA.out.len.1 HA.out.len.2 (HM.out.below bq)).mono ?_);rintro x w2 ⟨rfl,hb2⟩;obtain ⟨hc2,hf2⟩:=bcell hb2;have a2:w.heap.size < w2.heap.size:=sz_of hb2 oq;have a3:w.heap.size + 1 < w2.heap.size:=sz_of hb2 oq) | go_values | go_skip | go_guarded | go_step | go_upon | (simp only [Int.not_lt,Int.not_le] at *;go_simp) | (go_values <;> (try go_simp)) | (go_ite <;> go_prune <;> (try go_simp)) | (split <;> (first | (rename_i hx;exact (hx _ rfl).elim) | go_prune)))
        refine bodyPost_ret (v:=TT.unk.v) (by simp only [results,Tryz.results54];go_simp;try rfl) rfl ⟨?_,?_⟩
        · rfl
        · exact bq
      · have hk2':(k == 2) = false:=beq_eq_false_iff_ne.2 hk2
        clear hk2
        go_enter Tryz.func54,Tryz.ntmps54
        repeat' (first | (go_at_call 75;(with_reducible refine (HF.out _ _ _ _ (HA.out.args.below bq) HA.out.len.1 HA.out.len.2 (HM.out.below bq)).mono ?_);rintro x w2 ⟨rfl,hb2⟩;obtain ⟨hc2,hf2⟩:=bcell hb2;have a2:w.heap.size < w2.heap.size:=sz_of hb2 oq;have a3:w.heap.size + 1 < w2.heap.size:=sz_of hb2 oq) | go_values | go_skip | go_guarded | go_step | go_upon | (simp only [Int.not_lt,Int.not_le] at *;go_simp) | (go_values <;> (try go_simp)) | (go_ite <;> go_prune <;> (try go_simp)) | (split <;> (first | (rename_i hx;exact (hx _ rfl).elim) | go_prune)))
        refine bodyPost_ret (v:=TT.unk.v) (by simp only [results,Tryz.results54];go_simp;try rfl) rfl ⟨?_,?_⟩
        · rfl
        · exact bq
    | bad a1 e1 =>
      rw [hs] at hr HF
      simp only at hr
      subst hr
      simp only [TT.v] at HF
      clear hk1
      by_cases hk2:k = 2
      · subst hk2
        go_enter Tryz.func54,Tryz.ntmps54
        repeat' (first | (go_at_call 75;(with_reducible refine (HF.out _ _ _ _ (HA.out.args.below bq) HA.out.len.1 HA.out.len.2 (HM.out.below bq)).mono ?_);rintro x w2 ⟨rfl,hb2⟩;obtain ⟨hc2,hf2⟩:=bcell hb2;have a2:w.heap.size < w2.heap.size:=sz_of hb2 oq;have a3:w.heap.size + 1 < w2.heap.size:=sz_of hb2 oq) | go_values | go_skip | go_guarded | go_step | go_upon | (simp only [Int.not_lt,Int.not_le] at *;go_simp) | (go_values <;> (try go_simp)) | (go_ite <;> go_prune <;> (try go_simp)) | (split <;> (first | (rename_i hx;exact (hx _ rfl).elim) | go_prune)))
        refine bodyPost_ret (v:=(TT.bad a1 e1).v) (by simp only [results,Tryz.results54];go_simp;try rfl) rfl ⟨?_,?_⟩
        · rfl
        · exact bq
      · have hk2':(k == 2) = false:=beq_eq_false_iff_ne.2 hk2
        clear hk2
        go_enter Tryz.func54,Tryz.ntmps54
        repeat' (first | (go_at_call 75;(with_reducible refine (HF.out _ _ _ _ (HA.out.args.below bq) HA.out.len.1 HA.out.len.2 (HM.out.below bq)).mono ?_);rintro x w2 ⟨rfl,hb2⟩;obtain ⟨hc2,hf2⟩:=bcell hb2;have a2:w.heap.size < w2.heap.size:=sz_of hb2 oq;have a3:w.heap.size + 1 < w2.heap.size:=sz_of hb2 oq) | go_values | go_skip | go_guarded | go_step | go_upon | (simp only [Int.not_lt,Int.not_le] at *;go_simp) | (go_values <;> (try go_simp)) | (go_ite <;> go_prune <;> (try go_simp)) | (split <;> (first | (rename_i hx;exact (hx _ rfl).elim) | go_prune)))
        refine bodyPost_ret (v:=(TT.bad a1 e1).v) (by simp only [results,Tryz.results54];go_simp;try rfl) rfl ⟨?_,?_⟩
        · rfl
        · exact bq
    | ok p f =>
      rw [hs] at hr HF
      simp only at hr
      simp only [TT.v] at HF
      by_cases hk2:k = 2
      · subst hk2
        rw [if_pos rfl] at hr
        subst hr
        clear hk1
        go_enter Tryz.func54,Tryz.ntmps54
        repeat' (first | (go_at_call 75;(with_reducible refine (HF.out _ _ _ _ (HA.out.args.below bq) HA.out.len.1 HA.out.len.2 (HM.out.below bq)).mono ?_);rintro x w2 ⟨rfl,hb2⟩;obtain ⟨hc2,hf2⟩:=bcell hb2;have a2:w.heap.size < w2.heap.size:=sz_of hb2 oq;have a3:w.heap.size + 1 < w2.heap.size:=sz_of hb2 oq) | go_values | go_skip | go_guarded | go_step | go_upon | (simp only [Int.not_lt,Int.not_le] at *;go_simp) | (go_values <;> (try go_simp)) | (go_ite <;> go_prune <;> (try go_simp)) | (split <;> (first | (rename_i hx;exact (hx _ rfl).elim) | go_prune)))
        refine bodyPost_ret (v:=(TT.ok p f).v) (by simp only [results,Tryz.results54];go_simp;try rfl) rfl ⟨?_,?_⟩
        · rfl
        · exact bq
      · have hk2':(k == 2) = false:=beq_eq_false_iff_ne.2 hk2
        rw [if_neg hk2] at hr
        have HP:=hid (fun w => clock.apply_any p f k n d w)
        unfold clock.ansT clock.ansC at HP
        generalize clock.applyP p f k n d = r at hr HP
        obtain ⟨r1,r2,r3⟩:=r
        simp only at hr HP
        clear hk1 hk2
        by_cases h0:r3 = 0
        · subst h0
          rw [if_pos rfl] at hr
          subst hr
          go_enter Tryz.func54,Tryz.ntmps54
          repeat' (first | (go_at_call 75;(with_reducible refine (HF.out _ _ _ _ (HA.out.args.below bq) HA.out.len.1 HA.out.len.2 (HM.out.below bq)).mono ?_);rintro x w2 ⟨rfl,hb2⟩;obtain ⟨hc2,hf2⟩:=bcell hb2;have a2:w.heap.size < w2.heap.size:=sz_of hb2 oq;have a3:w.heap.size + 1 < w2.heap.size:=sz_of hb2 oq) | (go_at_call 76;(with_reducible refine (HP.out _).mono ?_);rintro x w3 ⟨rfl,hb3⟩;obtain ⟨hc3,hf3⟩:=bcell hb3;have a4:w.heap.size < w3.heap.size:=sz_of hb3 oq;have a5:w.heap.size + 1 < w3.heap.size:=sz_of hb3 oq;have a6:w2.heap.size < w3.heap.size:=sz_of hb3 oq) | go_values | go_skip | go_guarded | go_step | go_upon | (simp only [Int.not_lt,Int.not_le] at *;go_simp) | (go_values <;> (try go_simp)) | (go_ite <;> go_prune <;> (try go_simp)) | (split <;> (first | (rename_i hx;exact (hx _ rfl).elim) | go_prune)))
          refine bodyPost_ret (v:=(TT.ok r1 r2).v) (by simp only [results,Tryz.results54];go_simp;try rfl) rfl ⟨?_,?_⟩
          · rfl
          · exact bq
        · rw [if_neg h0] at hr
          subst hr
          have h0':(r3 == 0) = false:=beq_eq_false_iff_ne.2 h0
          clear h0
          go_enter Tryz.func54,Tryz.ntmps54
          repeat' (first | (go_at_call 75;(with_reducible refine (HF.out _ _ _ _ (HA.out.args.below bq) HA.out.len.1 HA.out.len.2 (HM.out.below bq)).mono ?_);rintro x w2 ⟨rfl,hb2⟩;obtain ⟨hc2,hf2⟩:=bcell hb2;have a2:w.heap.size < w2.heap.size:=sz_of hb2 oq;have a3:w.heap.size + 1 < w2.heap.size:=sz_of hb2 oq) | (go_at_call 76;(with_reducible refine (HP.out _).mono ?_);rintro x w3 ⟨rfl,hb3⟩;obtain ⟨hc3,hf3⟩:=bcell hb3;have a4:w.heap.size < w3.heap.size:=sz_of hb3 oq;have a5:w.heap.size + 1 < w3.heap.size:=sz_of hb3 oq;have a6:w2.heap.size < w3.heap.size:=sz_of hb3 oq) | go_values | go_skip | go_guarded | go_step | go_upon | (simp only [Int.not_lt,Int.not_le] at *;go_simp) | (go_values <;> (try go_simp)) | (go_ite <;> go_prune <;> (try go_simp)) | (split <;> (first | (rename_i hx;exact (hx _ rfl).elim) | go_prune)))
          refine bodyPost_ret (v:=(TT.bad a r3).v) (by simp only [results,Tryz.results54];go_simp;try rfl) rfl ⟨?_,?_⟩
          · rfl
          · exact bq
def TT.good:TT → Prop
  | .bad _ e => e ≠ 0
  | _ => True
theorem tell1_good {env:Env} {k:Int} {nm:ByteArray} {n d a:Int} {src:TT} (h:src.good):(tell1 env k nm n d a src).good:=by
  unfold tell1
  split
  · split <;> trivial
  · cases src with
    | unk => trivial
    | bad a e => exact h
    | ok p f =>
      simp only
      split
      · trivial
      · split
        · trivial
        · assumption
theorem tellL_good (env:Env):∀ l:PL,(tellL env l).good:=by
  intro l
  induction l with
  | nil => trivial
  | cons k nm n d args a tl ih1 ih2 =>
    have h:=tell1_good (env:=env) (k:=k) (nm:=nm) (n:=n) (d:=d) (a:=a) ih1
    unfold tellL
    generalize tell1 env k nm n d a (tellL env args) = t at h
    cases t with
    | unk => exact ih2
    | ok p f => trivial
    | bad a e => exact h
theorem tellE_good (env:Env) (e:PE):(tellE env e).good:=tell1_good (tellL_good env e.args)
def RestP (wr:World) (ad:Option Addr) (l rest:PL) (i:Nat):Prop :=
  i + rest.len = l.len ∧ rest.sz ≤ l.sz ∧ (rest = .nil ∨ ∃ b o,ad = some ⟨b,o,none⟩ ∧ b < wr.heap.size ∧ AC wr rest b (o + i * 6))
theorem RestP.start {w:World} {ad:Option Addr} {l:PL} (h:AS w l ad):RestP w ad l l 0:=by
  refine ⟨by omega,Nat.le_refl _,?_⟩
  rcases h with h | ⟨b,o,e,hb,h⟩
  · exact .inl h
  · exact .inr ⟨b,o,e,hb,by simpa using h⟩
theorem RestP.below {w w':World} {ad:Option Addr} {l rest:PL} {i:Nat} (h:RestP w ad l rest i) (hb:Below w.heap.size w w'):RestP w' ad l rest i:=by
  obtain ⟨h1,h2,h3⟩:=h
  refine ⟨h1,h2,?_⟩
  rcases h3 with h3 | ⟨b,o,e,hlt,h3⟩
  · exact .inl h3
  · exact .inr ⟨b,o,e,Nat.lt_of_lt_of_le hlt hb.size,h3.below hb _ _ _ hlt⟩
theorem RestP.tail {w:World} {ad:Option Addr} {l tl args:PL} {k n d a:Int} {nm:ByteArray} {i:Nat} (h:RestP w ad l (.cons k nm n d args a tl) i):RestP w ad l tl (i + 1):=by
  obtain ⟨h1,h2,h3⟩:=h
  refine ⟨by simp only [PL.len] at h1;omega,by simp only [PL.sz] at h2;omega,?_⟩
  rcases h3 with h3 | ⟨b,o,e,hlt,h3⟩
  · cases h3
  · obtain ⟨_,_,_,_,_,_,_,ht⟩:=h3
    exact .inr ⟨b,o,e,hlt,by rw [show o + (i + 1) * 6 = o + i * 6 + 6 by omega];exact ht⟩
theorem cells5' {w:World} {b:Nat} {v0 v1 v2 v3 v4:Value} {t:TypeId} (h:w.heap[b]? = some (.cells #[v0,v1,v2,v3,v4] t (0,0))) :
    (w.cell? ⟨b,0,none⟩ = some v0 ∧ w.cell? ⟨b,1,none⟩ = some v1 ∧ w.cell? ⟨b,2,none⟩ = some v2 ∧ w.cell? ⟨b,3,none⟩ = some v3 ∧ w.cell? ⟨b,4,none⟩ = some v4) ∧ ∀ o,w.frozen? ⟨b,o,none⟩ = false:=by
  refine ⟨⟨?_,?_,?_,?_,?_⟩,?_⟩
  all_goals first | (intro o;simp [World.frozen?,h]) | simp [World.cell?,h]
def FsRel (w:World) (env:Env) (L:List (ByteArray × Value)) (l:PL) (ad:Option Addr) (mb:Nat) (v:Value) (wr:World):Prop :=
  ∃ (i:Nat) (rest:PL),v = .int .i64 (i:Int) ∧ RestP wr ad l rest i ∧ tellL env rest = tellL env l ∧
    wr.heap[w.heap.size]? = some (.cells #[.int .i64 0,.int .i64 0,.bool false,.int .i64 0,.int .i64 0] 109 (0,0)) ∧ Below w.heap.size w wr
set_option maxRecDepth 100000 in
set_option maxHeartbeats 2000000 in
theorem first_step {env:Env} {L:List (ByteArray × Value)} (l:PL) (ih:∀ e:PE,e.args.sz < l.sz → TellSaid env L e):FirstSaid env L l:=by
  intro w ad cap mb hs hcap hmx hM
  have HS:=hid hs
  have HM:=hid hM
  have HIH:=hid ih
  clear hs hM ih
  obtain ⟨r,hr⟩:∃ r,tellL env l = r:=⟨_,rfl⟩
  rw [hr]
  have HR:=hid hr
  clear hr
  go_enter Tryz.func75,Tryz.ntmps75
  go_wp2
  go_loopw [10] (fun v wr => Hid (FsRel w env L l ad mb v wr)) (fun i _ => l.len - (intOf i).toNat)
  case atStart => exact ⟨0,l,rfl,(RestP.start HS.out).below bq,rfl,heap_new w _,bq⟩
  case round =>
    obtain ⟨i,rest,rfl,hrest,htl,hbox,hbel⟩:=hrel.out
    clear hrel
    obtain ⟨⟨x0,x1,x2,x3,x4⟩,xf⟩:=cells5' hbox
    have HBOX:=hid hbox
    have HBEL:=hid hbel
    have hil:=hrest.1
    have hbl:=lt_of_block hbox
    have HRS:=hid hrest
    have HTL:=hid htl
    clear hbox hbel hrest htl
    cases rest with
    | nil =>
      have hil':(i:Int) = (l.len:Int):=by simp only [PL.len] at hil;omega
      have h0:=HTL.out
      rw [tellL] at h0
      have h1:r = .unk:=by rw [← HR.out,← h0]
      subst h1
      clear h0
      repeat' (first | go_values | go_skip | go_guarded | go_step | go_upon | (simp only [Int.not_lt,Int.not_le] at *;go_simp) | (go_values <;> (try go_simp)) | (go_ite <;> go_prune <;> (try go_simp)) | (split <;> (first | (rename_i hx;exact (hx _ rfl).elim) | go_prune)))
      refine bodyPost_ret (v:=TT.unk.v) (by simp only [results,Tryz.results75];go_simp;try rfl) rfl ⟨?_,?_⟩
      · rfl
      · exact bq
    | cons k1 nm1 n1 d1 args1 a1 tl =>
      have hil':(i:Int) < (l.len:Int):=by simp only [PL.len] at hil;omega
      obtain ⟨b,o,rfl,hb,h0,h1,h2,h3,h5,hn,⟨ad1,cap1,h4,hcap1,hcm1,hd1⟩,ht⟩:=HRS.out.2.2.resolve_left (by intro h;cases h)
      have hsub:=HRS.out.2.1
      simp only [PL.sz] at hsub
      have HC:=hid (HIH.out ⟨k1,nm1,n1,d1,args1,a1⟩ (by show args1.sz < l.sz;omega))
      have HE:=hid (show AE wr ⟨k1,nm1,n1,d1,args1,a1⟩ ad1 cap1 from ⟨hn,⟨hcap1,hcm1⟩,hd1⟩)
      have hgd:=tellE_good env ⟨k1,nm1,n1,d1,args1,a1⟩
      have htl:=HTL.out
      rw [tellL] at htl
      unfold TellSaid at HC
      simp only at HC
      have hte:tellE env ⟨k1,nm1,n1,d1,args1,a1⟩ = tell1 env k1 nm1 n1 d1 a1 (tellL env args1):=rfl
      rw [← hte] at htl
      generalize tellE env ⟨k1,nm1,n1,d1,args1,a1⟩ = t at htl hgd HC
      clear hte ht hn hd1
      cases t with
      | unk =>
        simp only at htl
        simp only [TT.v] at HC
        have HT2:=hid htl
        clear htl hgd
        repeat' (first | (go_at_call 54;(with_reducible refine (HC.out _ _ _ _ (HE.out.below bq) (HM.out.below bq)).mono ?_);rintro x w2 ⟨rfl,hb2⟩;obtain ⟨hc2,hf2⟩:=bcell hb2;have a2:w.heap.size < w2.heap.size:=sz_of hb2 oq;have a3:wr.heap.size < w2.heap.size:=sz_of hb2 oq;have hbx2:=(hb2.block w.heap.size oq).trans ((heap_alloc_old _ _ hbl).trans HBOX.out);obtain ⟨⟨y0,y1,y2,y3,y4⟩,yf⟩:=cells5' hbx2;clear hbx2) | go_values | go_skip | go_guarded | go_step | go_upon | (simp only [Int.not_lt,Int.not_le] at *;go_simp) | (go_values <;> (try go_simp)) | (go_ite <;> go_prune <;> (try go_simp)) | (split <;> (first | (rename_i hx;exact (hx _ rfl).elim) | go_prune)))
        go_roundw
        case rel => exact ⟨i + 1,tl,by go_num,HRS.out.tail.below bq,HT2.out,(Below.block (show Below wr.heap.size wr _ from bq) _ hbl).trans HBOX.out,bq⟩
        case measure => simp [intOf];omega
      | ok p f =>
        simp only at htl
        simp only [TT.v] at HC
        have h1:r = .ok p f:=by rw [← HR.out,← htl]
        subst h1
        clear htl hgd
        repeat' (first | (go_at_call 54;(with_reducible refine (HC.out _ _ _ _ (HE.out.below bq) (HM.out.below bq)).mono ?_);rintro x w2 ⟨rfl,hb2⟩;obtain ⟨hc2,hf2⟩:=bcell hb2;have a2:w.heap.size < w2.heap.size:=sz_of hb2 oq;have a3:wr.heap.size < w2.heap.size:=sz_of hb2 oq;have hbx2:=(hb2.block w.heap.size oq).trans ((heap_alloc_old _ _ hbl).trans HBOX.out);obtain ⟨⟨y0,y1,y2,y3,y4⟩,yf⟩:=cells5' hbx2;clear hbx2) | go_values | go_skip | go_guarded | go_step | go_upon | (simp only [Int.not_lt,Int.not_le] at *;go_simp) | (go_values <;> (try go_simp)) | (go_ite <;> go_prune <;> (try go_simp)) | (split <;> (first | (rename_i hx;exact (hx _ rfl).elim) | go_prune)))
        refine bodyPost_ret (v:=(TT.ok p f).v) (by simp only [results,Tryz.results75];go_simp;try rfl) rfl ⟨?_,?_⟩
        · rfl
        · exact bq
      | bad ab eb =>
        simp only at htl
        simp only [TT.v] at HC
        have h1:r = .bad ab eb:=by rw [← HR.out,← htl]
        subst h1
        have heb:(eb == 0) = false:=beq_eq_false_iff_ne.2 hgd
        clear htl hgd
        repeat' (first | (go_at_call 54;(with_reducible refine (HC.out _ _ _ _ (HE.out.below bq) (HM.out.below bq)).mono ?_);rintro x w2 ⟨rfl,hb2⟩;obtain ⟨hc2,hf2⟩:=bcell hb2;have a2:w.heap.size < w2.heap.size:=sz_of hb2 oq;have a3:wr.heap.size < w2.heap.size:=sz_of hb2 oq;have hbx2:=(hb2.block w.heap.size oq).trans ((heap_alloc_old _ _ hbl).trans HBOX.out);obtain ⟨⟨y0,y1,y2,y3,y4⟩,yf⟩:=cells5' hbx2;clear hbx2) | go_values | go_skip | go_guarded | go_step | go_upon | (simp only [Int.not_lt,Int.not_le] at *;go_simp) | (go_values <;> (try go_simp)) | (go_ite <;> go_prune <;> (try go_simp)) | (split <;> (first | (rename_i hx;exact (hx _ rfl).elim) | go_prune)))
        refine bodyPost_ret (v:=(TT.bad ab eb).v) (by simp only [results,Tryz.results75];go_simp;try rfl) rfl ⟨?_,?_⟩
        · rfl
        · exact bq
theorem told_any {env:Env} {L:List (ByteArray × Value)} (hE:EnvIs L env):∀ (N:Nat),(∀ l:PL,l.sz < N → FirstSaid env L l) ∧ (∀ e:PE,e.args.sz < N → TellSaid env L e):=by
  intro N
  induction N with
  | zero => exact ⟨fun l h => absurd h (Nat.not_lt_zero _),fun e h => absurd h (Nat.not_lt_zero _)⟩
  | succ N ih =>
    have h1:∀ l:PL,l.sz < N + 1 → FirstSaid env L l:=fun l h => first_step l (fun e he => ih.2 e oq)
    exact ⟨h1,fun e h => tell_step hE e (h1 _ h)⟩
theorem tell_any {env:Env} {L:List (ByteArray × Value)} (hE:EnvIs L env) (e:PE):TellSaid env L e:=(told_any hE _).2 e (Nat.lt_succ_self _)
theorem getS_put (k:ByteArray) (v:Value) (nm:ByteArray):∀ L:List (ByteArray × Value),getS nm (putS k v L) = if nm = k then some v else getS nm L:=by
  intro L
  induction L with
  | nil => unfold putS getS;rfl
  | cons p L ih =>
    unfold putS
    by_cases hk:k = p.1
    · rw [if_pos hk]
      unfold getS
      by_cases h:nm = k
      · rw [if_pos h,if_pos h]
      · rw [if_neg h,if_neg h,if_neg (by rw [← hk];exact h)]
    · rw [if_neg hk]
      unfold getS
      by_cases h:nm = p.1
      · rw [if_pos h,if_pos h,if_neg (by rw [h];exact fun e => hk e.symm)]
      · rw [if_neg h,if_neg h];exact ih
theorem putS_new (k:ByteArray) (v:Value):∀ L:List (ByteArray × Value),getS k L = none → (putS k v L).length = L.length + 1:=by
  intro L
  induction L with
  | nil => intro _;rfl
  | cons p L ih =>
    intro h
    unfold getS at h
    by_cases hk:k = p.1
    · rw [if_pos hk] at h;cases h
    · rw [if_neg hk] at h
      unfold putS
      rw [if_neg hk,List.length_cons,ih h,List.length_cons]
def upd (env:Env) (k:ByteArray) (c:Int × Int):Env:=fun nm => if nm = k then some c else env nm
theorem EnvIs.put {L:List (ByteArray × Value)} {env:Env} (h:EnvIs L env) (k:ByteArray) (c:Int × Int):EnvIs (putS k (cvv c) L) (upd env k c):=by
  intro nm
  rw [getS_put]
  unfold upd
  by_cases hk:nm = k
  · rw [if_pos hk,if_pos hk];rfl
  · rw [if_neg hk,if_neg hk];exact h nm
def mapsz (w:World) (mb:Nat):Nat:=match w.heap[mb]? with | some (.map arr _) => arr.size | _ => 0
theorem MapS.size {w:World} {mb:Nat} {L:List (ByteArray × Value)} (h:MapS w mb L):mapsz w mb = L.length:=by
  obtain ⟨arr,clock,h1,h2⟩:=h
  unfold mapsz
  rw [h1]
  have:=congrArg List.length h2
  simpa using this
theorem FlC.cells {w:World} {b o:Nat} {nm nm1:ByteArray} {k1 n1 d1 a1 fa:Int} {args1:PL} (h:FlC w b o ⟨nm,⟨k1,nm1,n1,d1,args1,a1⟩,fa⟩):∃ ad cap,
    w.cell? ⟨b,o,none⟩ = some (.string nm) ∧ w.cell? ⟨b,o + 1,none⟩ = some (.int .i64 k1) ∧ w.cell? ⟨b,o + 2,none⟩ = some (.string nm1) ∧ w.cell? ⟨b,o + 3,none⟩ = some (.int .i64 n1) ∧ w.cell? ⟨b,o + 4,none⟩ = some (.int .i64 d1) ∧
    w.cell? ⟨b,o + 5,none⟩ = some (.slice ad args1.len cap) ∧ w.cell? ⟨b,o + 6,none⟩ = some (.int .i64 a1) ∧ w.cell? ⟨b,o + 7,none⟩ = some (.int .i64 fa) ∧ AE w ⟨k1,nm1,n1,d1,args1,a1⟩ ad cap ∧ (nm.size ≤ 9223372036854775807 ∧ I64 fa):=by
  obtain ⟨x0,⟨ad1,cap1,x1,x2,x3,x4,x5,x6,hae⟩,x7,hfn⟩:=h
  exact ⟨ad1,cap1,x0,x1,x2,x3,x4,x5,x6,x7,hae,hfn⟩
theorem drop_fl {l:List FL} {i:Nat} (h:i < l.length):l.drop i = l[i] :: l.drop (i + 1):=by rw [List.drop_eq_getElem_cons h]
theorem MapS.upon {w w':World} {mb r:Nat} {L:List (ByteArray × Value)} (h:MapS w mb L) (hu:Upon r w w') (hne:mb ≠ r):MapS w' mb L:=by
  obtain ⟨arr,clock,h1,h2⟩:=h
  exact ⟨arr,clock,(hu.block mb (lt_of_block h1) hne).trans h1,h2⟩
structure FW (W0 w wr:World) (mb:Nat) (L:List (ByteArray × Value)) (env:Env):Prop where
  upon:Upon mb w wr
  map:MapS wr mb L
  env:EnvIs L env
def isT:Value → Nat
  | .bool true => 1
  | _ => 0
def OkPair:Ending:=.returned (.tuple #[.int .i64 0,.int .i64 0])
theorem eq_clock (p q p' q':Int) (w:World):(Op.equal 53 (.agg #[.int .i64 p,.int .i64 q]) (.agg #[.int .i64 p',.int .i64 q'])).run Tryz.prog w = .ok (decide (p = p' ∧ q = q')) w:=by
  have hu:Tryz.prog.underlying 53 = some (.struct (Tryz.prog.fieldsOf 53)):=by kernel_rfl
  have hs:Tryz.prog.stoodInHeld 53 = false:=by kernel_rfl
  have hf : (Tryz.prog.fieldsOf 53).toList.map (fun f => (f.name, f.type, f.offset)) = [("Period", 2, 0), ("Phase", 2, 1)] := by kernel_rfl
  obtain ⟨f1, f2, hl, n1, t1, o1, n2, t2, o2⟩ : ∃ f1 f2, (Tryz.prog.fieldsOf 53).toList = [f1, f2] ∧ f1.name = "Period" ∧ f1.type = 2 ∧ f1.offset = 0 ∧ f2.name = "Phase" ∧ f2.type = 2 ∧ f2.offset = 1 := by
    generalize (Tryz.prog.fieldsOf 53).toList = l at hf
    cases l with
    | nil => simp at hf
    | cons f1 l =>
      cases l with
      | nil => simp at hf
      | cons f2 l =>
        cases l with
        | nil => simp at hf;exact ⟨f1,f2,rfl,hf.1.1,hf.1.2.1,hf.1.2.2,hf.2.1,hf.2.2.1,hf.2.2.2⟩
        | cons f3 l => simp at hf
  unfold Op.equal
  rw [show Op.maxDepth = 9998 + 1 + 1 from rfl,run_equalIn_agg w (9998 + 1) 53 _ _ hu hs,hl]
  have hi:(isAgg 2).run Tryz.prog w = .ok false w:=by kernel_rfl
  have hp:(Op.equalIn (9998 + 1) 2 (.int .i64 p) (.int .i64 p')).run Tryz.prog w = .ok (p == p') w:=run_equalIn_int w 9998 2 .i64 .i64 _ _ Tryz.underlying2
  have hn:(Op.equalIn (9998 + 1) 2 (.int .i64 q) (.int .i64 q')).run Tryz.prog w = .ok (q == q') w:=run_equalIn_int w 9998 2 .i64 .i64 _ _ Tryz.underlying2
  simp only [Op.eqFields,n1,t1,o1,n2,t2,o2]
  simp [part,hi,hp,hn]
  by_cases h1:p = p' <;> by_cases h2:q = q' <;> simp [h1,h2]
def ckL (env:Env) (c:Int × Int):PL → Bool
  | .nil => true
  | .cons k nm n d args a tl => match tell1 env k nm n d a (tellL env args) with
    | .bad _ _ => false
    | .unk => decide ((0,0) = c) && ckL env c tl
    | .ok p f => decide ((p,f) = c) && ckL env c tl
def ckA (env:Env):PL → Bool
  | .nil => true
  | .cons k nm n d args a tl => match tell1 env k nm n d a (tellL env args) with
    | .bad _ _ => false
    | .unk => ckL env (0,0) tl
    | .ok p f => ckL env (p,f) tl
theorem cells2c {w:World} {b:Nat} {v0 v1:Value} {t:TypeId} (h:w.heap[b]? = some (.cells #[v0,v1] t (0,0))) :
    (w.cell? ⟨b,0,none⟩ = some v0 ∧ w.cell? ⟨b,1,none⟩ = some v1) ∧ ∀ o,w.frozen? ⟨b,o,none⟩ = false:=by
  refine ⟨⟨?_,?_⟩,?_⟩
  all_goals first | (intro o;simp [World.frozen?,h]) | simp [World.cell?,h]
theorem set_at2 {w:World} {r:Nat} {a b:Value} {t:TypeId} (h:w.heap[r]? = some (.cells #[a,b] t (0,0))) (o:Nat) (u:Value) :
    (w.setCell ⟨r,o,none⟩ u).heap[r]? = some (.cells (#[a,b].setIfInBounds o u) t (0,0)):=by
  have hlt:=lt_of_block h
  have h':w.heap[r] = .cells #[a,b] t (0,0):=by simpa [Array.getElem?_eq_getElem hlt] using h
  show (w.heap.modify r _)[r]? = _
  rw [Array.getElem?_eq_getElem (by simpa using hlt),Array.getElem_modify_self,h']
  rfl
theorem set2 {w:World} {r:Nat} {a b a' b':Value} {t:TypeId} (h:w.heap[r]? = some (.cells #[a,b] t (0,0))) :
    ((w.setCell ⟨r,0,none⟩ a').setCell ⟨r,1,none⟩ b').heap[r]? = some (.cells #[a',b'] t (0,0)):=set_at2 (a:=a') (b:=b) (set_at2 h 0 a') 1 b'
theorem told_form (env:Env) (k:Int) (nm:ByteArray) (n d a:Int) (args:PL):(∃ ab eb,tell1 env k nm n d a (tellL env args) = .bad ab eb) ∨
    ∃ p f kb,(tell1 env k nm n d a (tellL env args)).v = .agg #[.int .i64 p,.int .i64 f,.bool kb,.int .i64 0,.int .i64 0] ∧
      (∀ c tl,ckL env c (.cons k nm n d args a tl) = (decide ((p,f) = c) && ckL env c tl)) ∧ ∀ tl,ckA env (.cons k nm n d args a tl) = ckL env (p,f) tl:=by
  cases h:tell1 env k nm n d a (tellL env args) with
  | bad ab eb => exact .inl ⟨ab,eb,rfl⟩
  | unk => exact .inr ⟨0,0,false,rfl,fun c tl => by rw [ckL,h],fun tl => by rw [ckA,h]⟩
  | ok p f => exact .inr ⟨p,f,true,rfl,fun c tl => by rw [ckL,h],fun tl => by rw [ckA,h]⟩
theorem ckL_bad {env:Env} {k:Int} {nm:ByteArray} {n d a ab eb:Int} {args:PL} (h:tell1 env k nm n d a (tellL env args) = .bad ab eb) (c:Int × Int) (tl:PL):ckL env c (.cons k nm n d args a tl) = false:=by rw [ckL,h]
theorem ckA_bad {env:Env} {k:Int} {nm:ByteArray} {n d a ab eb:Int} {args:PL} (h:tell1 env k nm n d a (tellL env args) = .bad ab eb) (tl:PL):ckA env (.cons k nm n d args a tl) = false:=by rw [ckA,h]
def AskAns (b:Bool) (x:Ending):Prop:=if b = true then x = OkPair else ∃ a e,e ≠ 0 ∧ x = .returned (.tuple #[.int .i64 a,.int .i64 e])
def AkRel (w:World) (env:Env) (e:PE) (ad:Option Addr) (cap:Nat) (v:Value) (wr:World):Prop :=
  ∃ (i:Nat) (rest:PL) (c1 c2:Int),v = .int .i64 (i:Int) ∧ RestP w ad e.args rest i ∧ (i = 0 → rest = e.args) ∧ (i ≠ 0 → ckL env (c1,c2) rest = ckA env e.args) ∧
    wr.heap[w.heap.size]? = some (.cells #[.int .i64 e.k,.string e.nm,.int .i64 e.n,.int .i64 e.d,.slice ad e.args.len cap,.int .i64 e.a] 46 (0,0)) ∧
    wr.heap[w.heap.size + 1]? = some (.cells #[.int .i64 c1,.int .i64 c2] 53 (0,0)) ∧ Below w.heap.size w wr
set_option maxRecDepth 100000 in
set_option maxHeartbeats 4000000 in
theorem askCall_any {w:World} (e:PE) (ad:Option Addr) (cap mb:Nat) (L:List (ByteArray × Value)) (env:Env) (hae:AE w e ad cap) (hM:MapS w mb L) (hE:EnvIs L env) :
    Calls Tryz.prog 56 #[.map (some mb),.agg #[.int .i64 e.k,.string e.nm,.int .i64 e.n,.int .i64 e.d,.slice ad e.args.len cap,.int .i64 e.a]] w fun x w' => AskAns (ckA env e.args) x ∧ Below w.heap.size w w':=by
  obtain ⟨k,nm,n,d,args,a⟩:=e
  have hlen:=hae.len
  simp only at hlen ⊢
  have HA:=hid hae
  have HM:=hid hM
  clear hae hM
  obtain ⟨r,hr⟩:∃ r,ckA env args = r:=⟨_,rfl⟩
  rw [hr]
  have HR:=hid hr
  clear hr
  go_enter Tryz.func56,Tryz.ntmps56
  go_wp2
  go_loopw [13] (fun v wr => Hid (AkRel w env ⟨k,nm,n,d,args,a⟩ ad cap v wr)) (fun i _ => args.len - (intOf i).toNat)
  case atStart => exact ⟨0,args,0,0,rfl,RestP.start HA.out.args,fun _ => rfl,fun h => absurd rfl h,(heap_alloc_old _ _ (by simp)).trans (heap_new w _),by simpa using heap_new (w.alloc _) _,bq⟩
  case round =>
    obtain ⟨i,rest,c1,c2,rfl,hrest,hz,hnz,hbox,hfir,hbel⟩:=hrel.out
    clear hrel
    simp only at hz hnz
    obtain ⟨⟨x0,x1,x2,x3,x4,x5⟩,xf⟩:=cells6' hbox
    obtain ⟨⟨g0,g1⟩,gf⟩:=cells2c hfir
    have HBOX:=hid hbox
    have HFIR:=hid hfir
    have HBEL:=hid hbel
    have hil:=hrest.1
    simp only at hil
    have hbl:=lt_of_block hbox
    have hbl2:=lt_of_block hfir
    have hsB:=hbel.size
    have HRS0:=hid hrest
    have HRS:=hid (hrest.below hbel)
    clear hbox hfir hbel hrest
    cases rest with
    | nil =>
      have hil':(i:Int) = (args.len:Int):=by simp only [PL.len] at hil;omega
      have h1:r = true:=by
        rw [← HR.out]
        by_cases h0:i = 0
        · rw [← hz h0];rfl
        · rw [← hnz h0];rfl
      subst h1
      clear hz hnz
      go_wp2
      go_ret2
      exact ⟨rfl,HBEL.out⟩
    | cons k1 nm1 n1 d1 args1 a1 tl =>
      have hil':(i:Int) < (args.len:Int):=by simp only [PL.len] at hil;omega
      obtain ⟨b,o,rfl,hb,h0,h1,h2,h3,h5,hn,⟨ad1,cap1,h4,hcap1,hcm1,hd1⟩,ht⟩:=HRS.out.2.2.resolve_left (by intro h;cases h)
      have HC:=hid (tell_any hE ⟨k1,nm1,n1,d1,args1,a1⟩)
      have HE:=hid (show AE wr ⟨k1,nm1,n1,d1,args1,a1⟩ ad1 cap1 from ⟨hn,⟨hcap1,hcm1⟩,hd1⟩)
      have hgd:=tellE_good env ⟨k1,nm1,n1,d1,args1,a1⟩
      unfold TellSaid at HC
      simp only at HC
      have hte:tellE env ⟨k1,nm1,n1,d1,args1,a1⟩ = tell1 env k1 nm1 n1 d1 a1 (tellL env args1):=rfl
      rw [hte] at HC hgd
      clear hte ht hn hd1
      rcases told_form env k1 nm1 n1 d1 a1 args1 with ⟨ab,eb,hbad⟩ | ⟨p,f,kb,hv,hckl,hcka⟩
      · have h1:r = false:=by
          rw [← HR.out]
          by_cases h0:i = 0
          · rw [← hz h0];exact ckA_bad hbad tl
          · rw [← hnz h0];exact ckL_bad hbad (c1,c2) tl
        subst h1
        rw [hbad] at HC hgd
        simp only [TT.v] at HC
        have heb:(eb == 0) = false:=beq_eq_false_iff_ne.2 hgd
        clear hz hnz hbad
        go_wp2_with (go_at_call 54;(with_reducible refine (HC.out _ _ _ _ (HE.out.below bq) (HM.out.below bq)).mono ?_);rintro x w2 ⟨rfl,hb2⟩;obtain ⟨hc2,hf2⟩:=bcell hb2;have a2:w.heap.size < w2.heap.size:=sz_of hb2 oq;have a2':w.heap.size + 1 < w2.heap.size:=sz_of hb2 oq;have a3:wr.heap.size < w2.heap.size:=sz_of hb2 oq;have hbx2:=(hb2.block w.heap.size oq).trans ((heap_alloc_old _ _ hbl).trans HBOX.out);obtain ⟨⟨y0,y1,y2,y3,y4,y5⟩,yf⟩:=cells6' hbx2;have hby2:=(hb2.block (w.heap.size + 1) oq).trans ((heap_alloc_old _ _ hbl2).trans HFIR.out);obtain ⟨⟨z0,z1⟩,zf⟩:=cells2c hby2;have HY2:=hid hby2;clear hbx2 hby2)
        go_quiet (fail)
        go_wp2
        go_ret2
        exact ⟨⟨ab,eb,hgd,rfl⟩,bq⟩
      · rw [hv] at HC
        clear hv hgd
        by_cases h0:i = 0
        · have hi0:((i:Int) == 0) = true:=by rw [beq_iff_eq];omega
          have hq:=fun w => eq_clock p f p f w
          simp only [and_self,decide_true] at hq
          have h2:ckL env (p,f) tl = ckA env args:=by rw [← hz h0,hcka tl]
          have H2:=hid h2
          have HZ0:=hid h0
          clear hz hnz hckl hcka h0 h2
          go_wp2_with (go_at_call 54;(with_reducible refine (HC.out _ _ _ _ (HE.out.below bq) (HM.out.below bq)).mono ?_);rintro x w2 ⟨rfl,hb2⟩;obtain ⟨hc2,hf2⟩:=bcell hb2;have a2:w.heap.size < w2.heap.size:=sz_of hb2 oq;have a2':w.heap.size + 1 < w2.heap.size:=sz_of hb2 oq;have a3:wr.heap.size < w2.heap.size:=sz_of hb2 oq;have hbx2:=(hb2.block w.heap.size oq).trans ((heap_alloc_old _ _ hbl).trans HBOX.out);obtain ⟨⟨y0,y1,y2,y3,y4,y5⟩,yf⟩:=cells6' hbx2;have hby2:=(hb2.block (w.heap.size + 1) oq).trans ((heap_alloc_old _ _ hbl2).trans HFIR.out);obtain ⟨⟨z0,z1⟩,zf⟩:=cells2c hby2;have HY2:=hid hby2;clear hbx2 hby2)
          refine ⟨⟨i + 1,tl,p,f,by go_num,HRS0.out.tail,fun h => by omega,fun _ => H2.out,?_,?_,bq⟩,by simp [intOf];omega⟩
          · exact (Below.block (show Below (w.heap.size + 1) wr _ from bq) _ oq).trans HBOX.out
          · exact (heap_alloc_old _ _ (by simpa [World.setCell] using a2')).trans (set2 HY2.out)
        · have hi0:((i:Int) == 0) = false:=by rw [beq_eq_false_iff_ne];omega
          have hck:=hnz h0
          rw [hckl (c1,c2) tl] at hck
          have HI0:=hid h0
          by_cases hcc:p = c1 ∧ f = c2
          · obtain ⟨rfl,rfl⟩:=hcc
            have hq:=fun w => eq_clock p f p f w
            simp only [and_self,decide_true] at hq
            have H2:=hid (show ckL env (p,f) tl = ckA env args by rw [← hck];simp)
            clear hz hnz hckl hcka h0 hck
            go_wp2_with (go_at_call 54;(with_reducible refine (HC.out _ _ _ _ (HE.out.below bq) (HM.out.below bq)).mono ?_);rintro x w2 ⟨rfl,hb2⟩;obtain ⟨hc2,hf2⟩:=bcell hb2;have a2:w.heap.size < w2.heap.size:=sz_of hb2 oq;have a2':w.heap.size + 1 < w2.heap.size:=sz_of hb2 oq;have a3:wr.heap.size < w2.heap.size:=sz_of hb2 oq;have hbx2:=(hb2.block w.heap.size oq).trans ((heap_alloc_old _ _ hbl).trans HBOX.out);obtain ⟨⟨y0,y1,y2,y3,y4,y5⟩,yf⟩:=cells6' hbx2;have hby2:=(hb2.block (w.heap.size + 1) oq).trans ((heap_alloc_old _ _ hbl2).trans HFIR.out);obtain ⟨⟨z0,z1⟩,zf⟩:=cells2c hby2;have HY2:=hid hby2;clear hbx2 hby2)
            refine ⟨⟨i + 1,tl,p,f,by go_num,HRS0.out.tail,fun h => by omega,fun _ => H2.out,?_,?_,bq⟩,by simp [intOf];omega⟩
            · exact (Below.block (show Below (w.heap.size + 1) wr _ from bq) _ oq).trans HBOX.out
            · exact (heap_alloc_old _ _ a2').trans HY2.out
          · have hq:=fun w => eq_clock p f c1 c2 w
            simp only [hcc,decide_false] at hq
            have h1:r = false:=by
              rw [← HR.out,← hck]
              have:¬ ((p,f) = (c1,c2)):=by intro e;injection e with e1 e2;exact hcc ⟨e1,e2⟩
              rw [decide_eq_false this];rfl
            subst h1
            have HCC:=hid hcc
            clear hz hnz hckl hcka h0 hck hcc
            go_wp2_with (go_at_call 54;(with_reducible refine (HC.out _ _ _ _ (HE.out.below bq) (HM.out.below bq)).mono ?_);rintro x w2 ⟨rfl,hb2⟩;obtain ⟨hc2,hf2⟩:=bcell hb2;have a2:w.heap.size < w2.heap.size:=sz_of hb2 oq;have a2':w.heap.size + 1 < w2.heap.size:=sz_of hb2 oq;have a3:wr.heap.size < w2.heap.size:=sz_of hb2 oq;have hbx2:=(hb2.block w.heap.size oq).trans ((heap_alloc_old _ _ hbl).trans HBOX.out);obtain ⟨⟨y0,y1,y2,y3,y4,y5⟩,yf⟩:=cells6' hbx2;have hby2:=(hb2.block (w.heap.size + 1) oq).trans ((heap_alloc_old _ _ hbl2).trans HFIR.out);obtain ⟨⟨z0,z1⟩,zf⟩:=cells2c hby2;have HY2:=hid hby2;clear hbx2 hby2)
            all_goals first | (exact (HCC.out ⟨rfl,rfl⟩).elim) | (exact (HCC.out ⟨by assumption,by assumption⟩).elim) | (exact (HCC.out ⟨by first | rfl | (symm;assumption),by first | rfl | (symm;assumption)⟩).elim) | (go_ret2;exact ⟨⟨a,5,by decide,rfl⟩,bq⟩)
theorem told_field (w:World) (p f a e:Int) (kb:Bool):(Instr.field 109 (.agg #[.int .i64 p,.int .i64 f,.bool kb,.int .i64 a,.int .i64 e]) 0).run Tryz.prog w = .ok (.agg #[.int .i64 p,.int .i64 f]) w:=by kernel_rfl
theorem look_yes {w:World} {mb:Nat} {L:List (ByteArray × Value)} {nm:ByteArray} {v:Value} (h:MapS w mb L) (hs:getS nm L = some v) :
    (Instr.lookup 88 (.map (some mb)) (.string nm) false).run Tryz.prog w = .ok v w:=by
  have:=map_lookS clocksMap h nm false
  rw [hs] at this;exact this
end Go.Proofs.YteaiemfhlpoieaaGreatDoor.syn
