/-
  Parts of the proof: Evl3, Evl4, Arith, NumA, Clock.
-/
import Derived.Test.YtpjficjlfibibaaGreatDoorQ05
import Derived.Deep.AppendLies
import Derived.Test.YtpjficjlfibibaaGreatDoorChecked
import Derived.WalkKit
import Derived.ProofKit
import Derived.OpenShut
import Derived.Handy
import Derived.BigQuiet
import Derived.Deep.QuietTactic
import Derived.Lib.Hide
import Derived.Test.YtpjficjlfibibaaGreatDoorQ04
import Derived.Below
namespace Go.Proofs.YtpjficjlfibibaaGreatDoor.syn
open Go.RowKit
set_option linter.unusedVariables false
set_option linter.unusedSimpArgs false
def occA (w:World):PL → Nat → Nat → List Addr
 | .nil,_,_ => []
 | .cons _ _ _ _ args _ tl,b,o => ⟨b,o,none⟩ :: ((match w.cell? ⟨b,o + 4,none⟩ with
  | some (.slice (some x) _ _) => occA w args x.block x.off
  | _ => []) ++ occA w tl b (o + 6))
theorem occ_at (w:World):∀ (l:PL) (b o i:Nat),i < l.len → (⟨b,o + i * 6,none⟩:Addr) ∈ occA w l b o
 | .nil,_,_,_,h => absurd h (Nat.not_lt_zero _)
 | .cons _ _ _ _ args _ tl,b,o,0,_ => by unfold occA;simp
 | .cons _ _ _ _ args _ tl,b,o,i + 1,h => by
  have:=occ_at w tl b (o + 6) i (by simp only [PL.len] at h;omega)
  unfold occA
  rw [show o + (i + 1) * 6 = o + 6 + i * 6 by omega]
  simp [this]
def Clo (w:World) (occ:List Addr) (x:Addr):Prop:=∃ e,At w x e ∧ ∀ b o cap,w.cell? ⟨x.block,x.off + 4,none⟩ = some (.slice (some ⟨b,o,none⟩) e.args.len cap) → ∀ i,i < e.args.len → (⟨b,o + i * 6,none⟩:Addr) ∈ occ
theorem Clo.mono {w:World} {occ occ':List Addr} {x:Addr} (h:Clo w occ x) (hs:∀ y ∈ occ,y ∈ occ'):Clo w occ' x:=by
 obtain ⟨e,h1,h2⟩:=h
 exact ⟨e,h1,fun b o cap hc i hi => hs _ (h2 b o cap hc i hi)⟩
theorem occ_closed {w:World}:∀ (l:PL) (b o:Nat),(∃ cs t,w.heap[b]? = some (.cells cs t (0,0))) → Cells w (fun _ => True) b l o → ∀ x ∈ occA w l b o,Clo w (occA w l b o) x:=by
 intro l
 induction l with
 | nil => intro b o _ _ x hx;cases hx
 | cons k nm n d args a tl ih1 ih2 =>
  intro b o hb h x hx
  have hat:=sla_at (.cons k nm n d args a tl) b o 0 ⟨k,nm,n,d,args,a⟩ hb h rfl
  obtain ⟨h0,h1,h2,h3,h5,⟨ad,cap,h4,hcap,hd⟩,ht⟩:=h
  have hocc:occA w (.cons k nm n d args a tl) b o = ⟨b,o,none⟩ :: ((match ad with | some x => occA w args x.block x.off | none => []) ++ occA w tl b (o + 6)):=by
   conv => lhs;unfold occA
   rw [h4]
   cases ad <;> rfl
  rw [hocc] at hx ⊢
  rcases List.mem_cons.1 hx with rfl | hx
  ·refine ⟨⟨k,nm,n,d,args,a⟩,by simpa using hat,fun b' o' cap' hc i hi => ?_⟩
   rw [h4] at hc
   simp only [Option.some.injEq,Value.slice.injEq] at hc
   obtain ⟨rfl,_,_⟩:=hc
   have:=occ_at w args b' o' i hi
   simp [this]
  ·rcases List.mem_append.1 hx with hx | hx
   ·cases ad with
    | none => cases hx
    | some y =>
     rcases hd with rfl | ⟨b',o',e,⟨_,cs,hcs⟩,hd⟩
     ·cases hx
     ·injection e with e
      subst e
      exact (ih1 b' o' ⟨cs,_,hcs⟩ hd x hx).mono (fun z hz => by
       have hz':z ∈ occA w args b' o':=hz
       simp [hz'])
   ·exact (ih2 b (o + 6) hb ht x hx).mono (fun z hz => by simp [hz])
theorem occ_all {w:World} {R:PE → Prop} (hR:∀ e i f,R e → e.args.at i = some f → R f):∀ (l:PL) (b o:Nat),(∃ cs t,w.heap[b]? = some (.cells cs t (0,0))) → Cells w (fun _ => True) b l o → (∀ i f,l.at i = some f → R f) → ∀ x ∈ occA w l b o,∃ e,At w x e ∧ R e:=by
 intro l
 induction l with
 | nil => intro b o _ _ _ x hx;cases hx
 | cons k nm n d args a tl ih1 ih2 =>
  intro b o hb h hl x hx
  have hat:=sla_at (.cons k nm n d args a tl) b o 0 ⟨k,nm,n,d,args,a⟩ hb h rfl
  have h1:=hl 0 ⟨k,nm,n,d,args,a⟩ rfl
  obtain ⟨_,_,_,_,_,⟨ad,cap,h4,_,hd⟩,ht⟩:=h
  have hocc:occA w (.cons k nm n d args a tl) b o = ⟨b,o,none⟩ :: ((match ad with | some x => occA w args x.block x.off | none => []) ++ occA w tl b (o + 6)):=by
   conv => lhs;unfold occA
   rw [h4]
   cases ad <;> rfl
  rw [hocc] at hx
  rcases List.mem_cons.1 hx with rfl | hx
  ·exact ⟨_,by simpa using hat,h1⟩
  ·rcases List.mem_append.1 hx with hx | hx
   ·cases ad with
    | none => cases hx
    | some y =>
     rcases hd with rfl | ⟨b',o',e,⟨_,cs,hcs⟩,hd⟩
     ·cases hx
     ·injection e with e
      subst e
      exact ih1 b' o' ⟨cs,_,hcs⟩ hd (fun i f hf => hR _ i f h1 hf) x hx
   ·exact ih2 b (o + 6) hb ht (fun i f hf => hl (i + 1) f hf) x hx
theorem occ_ex {w:World} {x0:Addr} {e0:PE} (h:At w x0 e0):∃ occ:List Addr,x0 ∈ occ ∧ (∀ x ∈ occ,Clo w occ x) ∧ ∀ R:PE → Prop,(∀ e i f,R e → e.args.at i = some f → R f) → R e0 → ∀ x ∈ occ,∃ e,At w x e ∧ R e:=by
 obtain ⟨b,o,ad,cap,rfl,hb,h0,h1,h2,h3,h5,h4,hcap,hs⟩:=h
 have hat:At w ⟨b,o,none⟩ e0:=⟨b,o,ad,cap,rfl,hb,h0,h1,h2,h3,h5,h4,hcap,hs⟩
 rcases hs with hs | ⟨b',o',rfl,⟨_,cs,hcs⟩,hc⟩
 ·refine ⟨[⟨b,o,none⟩],by simp,fun x hx => ?_,fun R _ h0 x hx => ⟨e0,by rw [List.mem_singleton.1 hx];exact hat,h0⟩⟩
  rw [List.mem_singleton.1 hx]
  exact ⟨e0,hat,fun b' o' cap' _ i hi => by rw [hs] at hi;exact absurd hi (Nat.not_lt_zero _)⟩
 ·refine ⟨⟨b,o,none⟩ :: occA w e0.args b' o',by simp,fun x hx => ?_,fun R hR h0 x hx => by
   rcases List.mem_cons.1 hx with rfl | hx
   ·exact ⟨e0,hat,h0⟩
   ·exact occ_all hR e0.args b' o' ⟨cs,_,hcs⟩ hc (fun i f hf => hR e0 i f h0 hf) x hx⟩
  rcases List.mem_cons.1 hx with rfl | hx
  ·refine ⟨e0,hat,fun b2 o2 cap2 hc2 i hi => ?_⟩
   have hc3:w.cell? ⟨b,o + 4,none⟩ = some (.slice (some ⟨b2,o2,none⟩) e0.args.len cap2):=hc2
   rw [h4] at hc3
   simp only [Option.some.injEq,Value.slice.injEq,Addr.mk.injEq,and_true] at hc3
   obtain ⟨⟨rfl,rfl⟩,_⟩:=hc3
   have:=occ_at w e0.args b' o' i hi
   simp [this]
  ·exact (occ_closed e0.args b' o' ⟨cs,_,hcs⟩ hc x hx).mono (fun z hz => by simp [hz])
structure VInv (w:World) (T:ByteArray → Int) (x0:Addr) (e0:PE) (occ:List Addr) (Ws:List Addr) (L:List (Addr × Value)):Prop where
 st:∀ (i:Nat) (x:Addr),Ws[i]? = some x → ∃ e,At w x e ∧ x ∈ occ ∧ e.sz + i ≤ e0.sz ∧ (i = 0 → x = x0)
 dec:∀ (i j:Nat) (x y:Addr) (e f:PE),i < j → Ws[i]? = some x → Ws[j]? = some y → At w x e → At w y f → f.sz < e.sz
 keys:∀ p ∈ L,p.1 ∈ occ ∧ K0 w p.1
 nodup:(L.map (·.1)).Nodup
 good:∀ x v,getQ x L = some v → x ∈ Ws ∨ ∃ e,At w x e ∧ v = .int .i64 (evE T e)
 fin:Ws = [] → getQ x0 L = some (.int .i64 (evE T e0))
variable {w:World} {T:ByteArray → Int} {x0:Addr} {e0:PE} {occ Ws:List Addr} {L:List (Addr × Value)}
theorem nodup_len:∀ (l m:List Addr),l.Nodup → (∀ a ∈ l,a ∈ m) → l.length ≤ m.length
 | [],m,_,_ => Nat.zero_le _
 | a :: l,m,hn,hs => by
  rw [List.nodup_cons] at hn
  have ha:=hs a (by simp)
  have h1:=nodup_len l (m.erase a) hn.2 (fun b hb => (List.mem_erase_of_ne (fun e => hn.1 (by rw [← e];exact hb))).2 (hs b (by simp [hb])))
  rw [List.length_erase_of_mem ha] at h1
  have:=List.length_pos_of_mem ha
  simp only [List.length_cons]
  omega
theorem szFrom_le:∀ (l:PL) (i:Nat),l.szFrom i ≤ l.sz
 | .nil,_ => Nat.le_refl _
 | .cons _ _ _ _ _ _ tl,0 => Nat.le_refl _
 | .cons k nm n d args a tl,i + 1 => by
  have:=szFrom_le tl i
  show tl.szFrom i ≤ args.sz + 1 + tl.sz
  omega
theorem VInv.len (h:VInv w T x0 e0 occ Ws L):Ws.length ≤ e0.sz:=by
 by_cases hn:Ws.length = 0
 ·omega
 ·obtain ⟨e,_,_,h1,_⟩:=h.st (Ws.length - 1) _ (List.getElem?_eq_getElem oq)
  have:1 ≤ e.sz:=by unfold PE.sz;omega
  omega
theorem VInv.few (h:VInv w T x0 e0 occ Ws L):L.length ≤ occ.length:=by
 have h1:=h.nodup
 have:=nodup_len _ occ h1 (fun a ha => by
  obtain ⟨p,hp,rfl⟩:=List.mem_map.1 ha
  exact (h.keys p hp).1)
 simpa using this
theorem mem_getQ {k:Addr}:∀ {L:List (Addr × Value)},k ∈ L.map (·.1) → getQ k L ≠ none
 | [],h => by cases h
 | p :: L,h => by
  unfold getQ
  by_cases hk:k = p.1
  ·rw [if_pos hk];simp
  ·rw [if_neg hk]
   refine mem_getQ ?_
   rcases List.mem_cons.1 h with h | h
   ·exact absurd h hk
   ·exact h
theorem putQ_nodup {k:Addr} {v:Value} {L:List (Addr × Value)} (h:(L.map (·.1)).Nodup):((putQ k v L).map (·.1)).Nodup ∧ L.length ≤ (putQ k v L).length:=by
 by_cases hk:getQ k L = none
 ·rw [putQ_new v hk]
  constructor
  ·rw [List.map_append,List.nodup_append]
   refine ⟨h,by simp,?_⟩
   intro a ha b hb e
   simp at hb
   subst hb
   subst e
   exact mem_getQ ha hk
  ·simp
 ·have:=putQ_old v hk
  constructor
  ·rw [this];exact h
  ·have:=congrArg List.length this
   simp at this
   omega
theorem VInv.push (h:VInv w T x0 e0 occ Ws L) {x:Addr} {e:PE} (hx:Ws[Ws.length - 1]? = some x) (he:At w x e) {y:Addr} {f:PE} (hy:At w y f) (hyo:y ∈ occ) (hf:f.sz < e.sz) (hg:getQ y L = none):VInv w T x0 e0 occ (Ws ++ [y]) (putQ y (.int .i64 0) L):=by
 have hn:=(List.getElem?_eq_some_iff.1 hx).1
 refine ⟨?_,?_,?_,(putQ_nodup h.nodup).1,?_,fun h => by simp at h⟩
 ·intro i z hz
  by_cases hi:i < Ws.length
  ·rw [List.getElem?_append_left hi] at hz
   exact h.st i z hz
  ·have hil:i < (Ws ++ [y]).length:=(List.getElem?_eq_some_iff.1 hz).1
   simp at hil
   obtain rfl:i = Ws.length:=by omega
   simp at hz
   subst hz
   obtain ⟨e',he',_,h2,_⟩:=h.st _ x hx
   have:=he'.one he
   subst this
   exact ⟨f,hy,hyo,by omega,fun h0 => by omega⟩
 ·intro i j a b ea eb hij ha hb hea heb
  by_cases hj:j < Ws.length
  ·rw [List.getElem?_append_left hj] at hb
   rw [List.getElem?_append_left oq] at ha
   exact h.dec i j a b ea eb hij ha hb hea heb
  ·have hjl:j < (Ws ++ [y]).length:=(List.getElem?_eq_some_iff.1 hb).1
   simp at hjl
   obtain rfl:j = Ws.length:=by omega
   simp at hb
   subst hb
   have:=heb.one hy
   subst this
   rw [List.getElem?_append_left hij] at ha
   by_cases hil:i = Ws.length - 1
   ·subst hil
    rw [hx] at ha
    injection ha with ha
    subst ha
    have:=hea.one he
    subst this
    exact hf
   ·exact Nat.lt_trans hf (h.dec i (Ws.length - 1) a x ea e oq ha hx hea he)
 ·intro p hp
  rcases putQ_keys _ _ _ p hp with h1 | ⟨q,hq,h1⟩
  ·rw [h1]
   exact ⟨hyo,hy.k0⟩
  ·rw [← h1]
   exact h.keys q hq
 ·intro z v hz
  rw [getQ_put] at hz
  by_cases hzy:z = y
  ·exact .inl (by simp [hzy])
  ·rw [if_neg hzy] at hz
   rcases h.good z v hz with h1 | h1
   ·exact .inl (by simp [h1])
   ·exact .inr h1
theorem VInv.pop (h:VInv w T x0 e0 occ Ws L) (h0:At w x0 e0) {x:Addr} {e:PE} (hx:Ws[Ws.length - 1]? = some x) (he:At w x e):VInv w T x0 e0 occ (Ws.take (Ws.length - 1)) (putQ x (.int .i64 (evE T e)) L):=by
 have hn:=(List.getElem?_eq_some_iff.1 hx).1
 have htk:∀ (i:Nat) (z:Addr),(Ws.take (Ws.length - 1))[i]? = some z → Ws[i]? = some z ∧ i < Ws.length - 1:=by
  intro i z hz
  have hi:i < (Ws.take (Ws.length - 1)).length:=(List.getElem?_eq_some_iff.1 hz).1
  rw [List.length_take] at hi
  rw [List.getElem?_take_of_lt oq] at hz
  exact ⟨hz,by omega⟩
 obtain ⟨e',he',hxo,_,hx0⟩:=h.st _ x hx
 refine ⟨fun i z hz => h.st i z (htk i z hz).1,fun i j a b ea eb hij ha hb hea heb => h.dec i j a b ea eb hij (htk i a ha).1 (htk j b hb).1 hea heb,?_,(putQ_nodup h.nodup).1,?_,?_⟩
 ·intro p hp
  rcases putQ_keys _ _ _ p hp with h1 | ⟨q,hq,h1⟩
  ·rw [h1]
   exact ⟨hxo,he.k0⟩
  ·rw [← h1]
   exact h.keys q hq
 ·intro z v hz
  rw [getQ_put] at hz
  by_cases hzx:z = x
  ·rw [if_pos hzx] at hz
   injection hz with hz
   subst hz
   subst hzx
   exact .inr ⟨e,he,rfl⟩
  ·rw [if_neg hzx] at hz
   rcases h.good z v hz with h1 | h1
   ·left
    obtain ⟨i,hi⟩:=List.mem_iff_getElem?.1 h1
    have hil:i < Ws.length:=(List.getElem?_eq_some_iff.1 hi).1
    by_cases hil2:i = Ws.length - 1
    ·rw [hil2,hx] at hi
     injection hi with hi
     exact absurd hi.symm hzx
    ·exact List.mem_iff_getElem?.2 ⟨i,by rw [List.getElem?_take_of_lt oq];exact hi⟩
   ·exact .inr h1
 ·intro hnil
  have hl:Ws.length = 1:=by
   have:=congrArg List.length hnil
   rw [List.length_take] at this
   simp at this
   omega
  have hxx:x = x0:=hx0 oq
  subst hxx
  have:=he.one h0
  subst this
  rw [getQ_put,if_pos rfl]
theorem VInv.start (h0:At w x0 e0) (ho:x0 ∈ occ):VInv w T x0 e0 occ [x0] []:=by
 refine ⟨?_,?_,(fun p hp => by cases hp),(by simp),(fun x v h => by cases h),(fun h => by cases h)⟩
 ·intro i x hx
  cases i with
  | zero =>
   simp at hx
   subst hx
   exact ⟨e0,h0,ho,by omega,fun _ => rfl⟩
  | succ i => simp at hx
 ·intro i j x y e f hij hx hy
  cases j with
  | zero => omega
  | succ j => simp at hy
theorem VInv.told (h:VInv w T x0 e0 occ Ws L) {x:Addr} {e:PE} (hx:Ws[Ws.length - 1]? = some x) (he:At w x e) (b o:Nat) (hbo:∀ e' j,e.args.at j = some e' → At w ⟨b,o + j * 6,none⟩ e') (i:Nat):ArgQ T e i (syn.argQ T L e.args b o i):=by
 cases hi:e.args.at i with
 | none =>
  have h1:syn.argQ T L e.args b o i = (.int .i64 0,none):=by unfold syn.argQ;rw [hi]
  rw [h1]
  refine ⟨fun _ => ?_,fun a h => by cases h⟩
  rw [evA_none T e.args i (by
   by_cases hlt:e.args.len ≤ i
   ·exact hlt
   ·obtain ⟨e',he',_⟩:=PL.at_some e.args i oq
    rw [hi] at he'
    cases he')]
 | some e' =>
  have hat:=hbo e' i hi
  have hev:evA T e.args i = evE T e':=evA_at T e.args i e' hi
  by_cases hk:e'.k = 13
  ·cases hg:getQ ⟨b,o + i * 6,none⟩ L with
   | none =>
    have h1:syn.argQ T L e.args b o i = (.int .i64 0,some ⟨b,o + i * 6,none⟩):=by unfold syn.argQ;rw [hi];simp only;rw [if_pos hk,hg]
    rw [h1]
    exact ⟨(fun h => by cases h),fun a _ => rfl⟩
   | some v =>
    have h1:syn.argQ T L e.args b o i = (v,none):=by unfold syn.argQ;rw [hi];simp only;rw [if_pos hk,hg]
    rw [h1]
    refine ⟨fun _ => ?_,(fun a h => by cases h)⟩
    rw [hev]
    rcases h.good _ v hg with h2 | ⟨e2,h2,h3⟩
    ·exfalso
     obtain ⟨j,hj⟩:=List.mem_iff_getElem?.1 h2
     have hjl:j < Ws.length:=(List.getElem?_eq_some_iff.1 hj).1
     have hsz:e'.sz < e.sz:=by
      have h4:i < e.args.len:=by
       by_cases hlt:i < e.args.len
       ·exact hlt
       ·rw [PL.at_none _ _ oq] at hi;cases hi
      obtain ⟨e3,he3,h5⟩:=PL.at_some e.args i h4
      rw [hi] at he3
      injection he3 with he3
      subst he3
      have h6:e.args.szFrom i ≤ e.args.sz:=szFrom_le e.args i
      unfold PE.sz at *
      omega
     by_cases hjl2:j = Ws.length - 1
     ·rw [hjl2,hx] at hj
      injection hj with hj
      subst hj
      have:=hat.one he
      subst this
      omega
     ·have:=h.dec j (Ws.length - 1) _ x e' e oq hj hx hat he
      omega
    ·have:=h2.one hat
     subst this
     exact h3
  ·have h1:syn.argQ T L e.args b o i = (.int .i64 (sgE T e'.k e'.nm e'.n),none):=by unfold syn.argQ;rw [hi];simp only;rw [if_neg hk]
   rw [h1]
   refine ⟨fun _ => ?_,fun a h => by cases h⟩
   rw [hev]
   unfold evE
   rw [if_neg hk]
theorem argQ_mis {T:ByteArray → Int} {L:List (Addr × Value)} {l:PL} {b o i:Nat} {a:Addr} (h:(argQ T L l b o i).2 = some a):∃ f,a = ⟨b,o + i * 6,none⟩ ∧ l.at i = some f ∧ getQ a L = none:=by
 unfold argQ at h
 cases hi:l.at i with
 | none => rw [hi] at h;cases h
 | some f =>
  rw [hi] at h
  simp only at h
  split at h
  ·cases hg:getQ ⟨b,o + i * 6,none⟩ L with
   | some v => rw [hg] at h;cases h
   | none =>
    rw [hg] at h
    injection h with h
    subst h
    exact ⟨f,rfl,rfl,hg⟩
  ·cases h
theorem rk_res {T:ByteArray → Int} {L:List (Addr × Value)} {e:PE} {b o:Nat} (hq:∀ i,ArgQ T e i (argQ T L e.args b o i)) :
  ((rkV T e (argQ T L e.args b o)).2 = none → (rkV T e (argQ T L e.args b o)).1 = .int .i64 (evE T e)) ∧
  ∀ a,(rkV T e (argQ T L e.args b o)).2 = some a → ∃ i f,a = ⟨b,o + i * 6,none⟩ ∧ e.args.at i = some f ∧ getQ a L = none:=by
 unfold rkV
 by_cases hk:e.k = 13
 ·rw [if_pos hk]
  have hev:evE T e = opE e.nm (evA T e.args 0) (evA T e.args 1) (evA T e.args 2):=by unfold evE;rw [if_pos hk]
  by_cases h0:(argQ T L e.args b o 0).2 ≠ none
  ·rw [if_pos h0]
   exact ⟨fun h => absurd h h0,fun a ha => by obtain ⟨f,h1,h2,h3⟩:=argQ_mis ha;exact ⟨0,f,h1,h2,h3⟩⟩
  ·rw [if_neg h0]
   by_cases hn:e.nm.toList = [63]
   ·rw [if_pos hn]
    have hev2:evE T e = if evA T e.args 0 ≠ 0 then evA T e.args 1 else evA T e.args 2:=by rw [hev];unfold opE;rw [if_pos hn]
    by_cases hz:evA T e.args 0 ≠ 0
    ·rw [if_pos hz]
     rw [if_pos hz] at hev2
     rw [hev2]
     exact ⟨(hq 1).val,fun a ha => by obtain ⟨f,h1,h2,h3⟩:=argQ_mis ha;exact ⟨1,f,h1,h2,h3⟩⟩
    ·rw [if_neg hz]
     rw [if_neg hz] at hev2
     rw [hev2]
     exact ⟨(hq 2).val,fun a ha => by obtain ⟨f,h1,h2,h3⟩:=argQ_mis ha;exact ⟨2,f,h1,h2,h3⟩⟩
   ·rw [if_neg hn]
    by_cases h1:(argQ T L e.args b o 1).2 ≠ none
    ·rw [if_pos h1]
     exact ⟨fun h => absurd h h1,fun a ha => by obtain ⟨f,h1,h2,h3⟩:=argQ_mis ha;exact ⟨1,f,h1,h2,h3⟩⟩
    ·rw [if_neg h1]
     exact ⟨fun _ => rfl,fun a ha => by cases ha⟩
 ·rw [if_neg hk]
  refine ⟨fun _ => ?_,fun a ha => by cases ha⟩
  unfold evE
  rw [if_neg hk]
theorem cells_but {w w':World} (hk:∀ (b:Nat) (cs:Array Value) (t:TypeId),w.heap[b]? = some (.cells cs t (0,0)) → w'.heap[b]? = w.heap[b]?):∀ (l:PL) (b o:Nat),(∃ cs t,w.heap[b]? = some (.cells cs t (0,0))) → Cells w (fun _ => True) b l o → Cells w' (fun _ => True) b l o:=by
 intro l
 induction l with
 | nil => intro b o _ _;trivial
 | cons k nm n d args a tl ih1 ih2 =>
  intro b o hb h
  obtain ⟨cs,t,hcs⟩:=hb
  have hc:∀ o,w'.cell? ⟨b,o,none⟩ = w.cell? ⟨b,o,none⟩:=fun o => World.cell?_of_block (w:=w) (a:=⟨b,o,none⟩) (hk b cs t hcs)
  obtain ⟨h0,h1,h2,h3,h5,⟨ad,cap,h4,hcap,hd⟩,ht⟩:=h
  refine ⟨(hc _).trans h0,(hc _).trans h1,(hc _).trans h2,(hc _).trans h3,(hc _).trans h5,⟨ad,cap,(hc _).trans h4,hcap,?_⟩,ih2 b _ ⟨cs,t,hcs⟩ ht⟩
  rcases hd with hd | ⟨b',o',e,⟨h6,cs',hcs'⟩,hd⟩
  ·exact .inl hd
  ·exact .inr ⟨b',o',e,⟨h6,cs',(hk b' cs' _ hcs').trans hcs'⟩,ih1 b' o' ⟨cs',_,hcs'⟩ hd⟩
theorem At.but {w w':World} (hk:∀ (b:Nat) (cs:Array Value) (t:TypeId),w.heap[b]? = some (.cells cs t (0,0)) → w'.heap[b]? = w.heap[b]?) {x:Addr} {e:PE} (h:At w x e):At w' x e:=by
 obtain ⟨b,o,ad,cap,h0,⟨cs,t,h1⟩,h2,h3,h4,h5,h6,h7,h8,h9⟩:=h
 have hb:=hk b cs t h1
 have hc:∀ o,w'.cell? ⟨b,o,none⟩ = w.cell? ⟨b,o,none⟩:=fun o => World.cell?_of_block (w:=w) (a:=⟨b,o,none⟩) hb
 refine ⟨b,o,ad,cap,h0,⟨cs,t,hb.trans h1⟩,(hc _).trans h2,(hc _).trans h3,(hc _).trans h4,(hc _).trans h5,(hc _).trans h6,(hc _).trans h7,h8,?_⟩
 rcases h9 with h9 | ⟨b',o',e',⟨h10,cs',hcs'⟩,hd⟩
 ·exact .inl h9
 ·exact .inr ⟨b',o',e',⟨h10,cs',(hk b' cs' _ hcs').trans hcs'⟩,cells_but hk _ b' o' ⟨cs',_,hcs'⟩ hd⟩
def msz (w:World) (mq:Nat):Nat:=match w.heap[mq]? with
 | some (.map arr _) => arr.size
 | _ => 0
theorem MapQ.msz {w:World} {mq:Nat} {L:List (Addr × Value)} (h:MapQ w mq L):syn.msz w mq = L.length:=by
 obtain ⟨arr,clock,h1,h2⟩:=h
 unfold syn.msz
 rw [h1]
 have:=congrArg List.length h2
 simpa using this
def lenOf:Value → Nat
 | .slice _ n _ => n
 | _ => 0
def ptrs (l:List Addr):List Value:=l.map (fun a => .pointer (some a))
theorem ptrs_app (l:List Addr) (x:Addr):ptrs (l ++ [x]) = ptrs l ++ [.pointer (some x)]:=by simp [ptrs]
theorem ptrs_take (l:List Addr) (n:Nat):(ptrs l).take n = ptrs (l.take n):=by simp [ptrs,List.map_take]
theorem ptrs_at {l:List Addr} {i:Nat} {x:Addr} (h:l[i]? = some x):(ptrs l)[i]? = some (.pointer (some x)):=by simp [ptrs,h]
theorem ptrs_form {w:World} {B:Nat} {v:Value} {l:List Addr} {t:TypeId} (h:w.ownsRow B t 1 v l.length (ptrs l)) (h0:0 < l.length):∃ g cap,v = .slice (some ⟨g,0,none⟩) l.length cap ∧ B ≤ g ∧ g < w.heap.size ∧ l.length ≤ cap ∧ (∀ i x,l[i]? = some x → w.cell? ⟨g,i,none⟩ = some (.pointer (some x))):=by
 have h2:=h
 rcases h.2 with ⟨_,h1⟩ | ⟨g,cap,cur,rfl,hb,hg,hcap,_⟩
 ·omega
 ·exact ⟨g,cap,rfl,hb,lt_of_block hg,hcap,fun i x hi => (World.ownsRow.cellAt h2 i (by have:=(List.getElem?_eq_some_iff.1 hi).1;omega)).trans (ptrs_at hi)⟩
theorem infoPtr:(Tryz.prog.info? 277).map (fun i => (i.zero,i.size,i.bytes)) = some (some (.pointer none),1,8):=by kernel_rfl
set_option maxRecDepth 100000 in
set_option maxHeartbeats 8000000 in
theorem value_any {w:World} {rb tb ma mq:Nat} {La:List (ByteArray × Value)} {T:ByteArray → Int} (hr:RkM w rb tb ma mq La []) (hne:ma ≠ mq) (hT:TV La T) {bx ox:Nat} {e0:PE} (h0:At w ⟨bx,ox,none⟩ e0) (hsz:e0.sz ≤ 1000)
  {R:PE → Prop} (hR0:R e0) (hR:∀ e i f,R e → e.args.at i = some f → R f) (hRI:∀ e,R e → I64v T e.args) :
  Calls Tryz.prog 179 #[.pointer (some ⟨rb,0,none⟩),.pointer (some ⟨bx,ox,none⟩)] w fun y w' => y = .returned (.int .i64 (evE T e0)) ∧ But (fun k => k = mq) w w':=by
 obtain ⟨occ,hx0,hclo,hoR⟩:=occ_ex h0
 have hO:=hoR R hR hR0
 obtain ⟨x0,hx⟩:∃ x0,(⟨bx,ox,none⟩:Addr) = x0:=⟨_,rfl⟩
 rw [hx] at h0 hx0 ⊢
 have HR:=hid hr
 have HT:=hid hT
 have H0:=hid h0
 have HO:=hid hO
 have HCL:=hid hclo
 have HST:=hid (VInv.start (T:=T) h0 hx0)
 have hmq:=hr.vals.lt
 clear hr hT h0 hO hclo hx hx0 hoR hR hR0
 go_enter Tryz.func179,Tryz.ntmps179
 go_wp2
 go_loopw [5] (fun s5 wr => Hid (∃ Ws L,VInv w T x0 e0 occ Ws L ∧ wr.ownsRow w.heap.size 277 1 s5 Ws.length (ptrs Ws) ∧ MapQ wr mq L ∧ But (fun k => k = mq) w wr)) (fun s wr => 2 * (occ.length - msz wr mq) + lenOf s)
 case atStart =>
  refine ⟨[x0],[],HST.out,?_,HR.out.vals.keep (Below.heap_alloc _ _ _ hmq),(But.refl _ _).alloc _⟩
  exact ⟨rfl,.inr ⟨w.heap.size,1,#[.pointer (some x0)],rfl,Nat.le_refl _,heap_new w _,Nat.le_refl _,by unfold maxLen;omega,rfl,rfl⟩⟩
 case round =>
  clear HST
  obtain ⟨wo,rfl⟩:∃ wo:World,wo = wr:=⟨_,rfl⟩
  obtain ⟨Ws,L,hv,hown,hmap,hbut⟩:=hrel.out
  clear hrel
  have hkeep:∀ (b:Nat) (cs:Array Value) (t:TypeId),w.heap[b]? = some (.cells cs t (0,0)) → wo.heap[b]? = w.heap[b]?:=fun b cs t h => hbut.block b (lt_of_block h) (fun e => by
   subst e
   obtain ⟨arr,clock,h1,_⟩:=HR.out.vals
   rw [h] at h1
   cases h1)
  have hks:∀ p ∈ L,K0 wo p.1:=fun p hp => (hv.keys p hp).2.keep (fun b cs t h => ⟨cs,(hkeep b cs t h).trans h⟩)
  have hrk:RkM wo rb tb ma mq La L:=⟨(hkeep _ _ _ HR.out.box).trans HR.out.box,(hkeep _ _ _ HR.out.tb).trans HR.out.tb,by
   have e:=hbut.block ma HR.out.args.lt hne
   obtain ⟨arr,clock,h1,h2⟩:=HR.out.args
   exact ⟨arr,clock,e.trans h1,h2⟩,hmap,hks⟩
  have b1:wo.cell? ⟨rb,1,none⟩ = some (.map (some mq)):=by simp [World.cell?,hrk.box]
  have HM:=hid hmap
  have HKS:=hid hks
  have HBUT:=hid hbut
  have HV:=hid hv
  have HKEEP:=hid hkeep
  by_cases hW:Ws = []
  ·subst hW
   obtain ⟨a5,c5,rfl⟩:=ownR_form hown
   have HL:=hid (show (getQ x0 L).getD (.int .i64 0) = .int .i64 (evE T e0) by rw [hv.fin rfl];rfl)
   have HK:=hid ((H0.out.k0).keep (fun b cs t h => ⟨cs,(hkeep b cs t h).trans h⟩))
   clear hkeep hks hrk hown hmap hbut hv
   go_wp2_with (at_lookup;refine wpList_lookQ valuesMap _ rfl _ _ false rfl mq L x0 rfl rfl HM.out HKS.out HK.out _ HL.out ?_)
   go_ret
   exact ⟨rfl,HBUT.out⟩
  ·have hWl:0 < Ws.length:=List.length_pos_iff.2 hW
   obtain ⟨n,hn⟩:∃ n,Ws.length = n + 1:=⟨Ws.length - 1,by omega⟩
   have hnn:Ws.length - 1 = n:=by omega
   obtain ⟨x,hx⟩:∃ x,Ws[Ws.length - 1]? = some x:=⟨_,List.getElem?_eq_getElem oq⟩
   obtain ⟨e,he,hxo,hes,_⟩:=hv.st _ x hx
   have hew:=he.but hkeep
   obtain ⟨e',he',hcl⟩:=HCL.out x hxo
   have:=he'.one he
   subst this
   have hbo:∃ b o,(∀ ad cap,wo.cell? ⟨x.block,x.off + 4,none⟩ = some (.slice ad e'.args.len cap) → e'.args.len = 0 ∨ ad = some ⟨b,o,none⟩) ∧ (∀ f j,e'.args.at j = some f → At w ⟨b,o + j * 6,none⟩ f) ∧ (∀ i,i < e'.args.len → (⟨b,o + i * 6,none⟩:Addr) ∈ occ):=by
    obtain ⟨bx2,ox2,ad,cap,rfl,⟨cs0,t0,hbk⟩,g0,g1,g2,g3,g5,g4,gcap,gd⟩:=he
    have gw:=(World.cell?_of_block (w:=w) (a:=⟨bx2,ox2 + 4,none⟩) (hkeep _ _ _ hbk)).trans g4
    rcases gd with gd | ⟨b',o',rfl,⟨_,cs,hcs⟩,hc⟩
    ·exact ⟨0,0,fun _ _ _ => .inl (by rw [gd];rfl),(fun f j h => by rw [gd] at h;cases h),(fun i h => by rw [gd] at h;cases h)⟩
    ·refine ⟨b',o',fun ad cap h => .inr ?_,fun f j h => sla_at _ _ _ _ _ ⟨cs,_,hcs⟩ hc h,fun i hi => hcl b' o' cap g4 i hi⟩
     rw [gw] at h
     injection h with h
     injection h with h
     exact h.symm
   obtain ⟨b,o,hbo1,hbo2,hbo3⟩:=hbo
   have hls:=len_le_sz e'.args
   have hesz:e'.args.sz + 1 = e'.sz:=rfl
   have hqq:=hv.told hx he b o hbo2
   obtain ⟨hr1,hr2⟩:=rk_res hqq
   have hxf:∃ bx1 ox1,x = ⟨bx1,ox1,none⟩:=by
    obtain ⟨bx2,ox2,_,_,e,_⟩:=he
    exact ⟨bx2,ox2,e⟩
   obtain ⟨bx1,ox1,rfl⟩:=hxf
   have HRK:=hid (reckon_any (w:=wo) hrk HT.out hew oq (by obtain ⟨f,hf,hRf⟩:=HO.out _ hxo;have:=hf.one he;subst this;exact hRI _ hRf) b o hbo1 hqq)
   obtain ⟨g,c5,rfl,hgB,hgs,hgcap,hgc⟩:=ptrs_form hown hWl
   have c1:=hgc _ _ hx
   rw [hnn] at c1
   have HE:=hid he
   have HX:=hid hx
   have HOWN:=hid (show wo.ownsRow w.heap.size 277 1 (.slice (some ⟨g,0,none⟩) (n + 1) c5) (n + 1) (ptrs Ws) by rw [← hn];exact hown)
   have hwl:=hv.len
   have hfew:=hv.few
   have hmz:=hmap.msz
   obtain ⟨⟨v7,a8⟩,hr⟩:∃ r,rkV T e' (argQ T L e'.args b o) = r:=⟨_,rfl⟩
   rw [hr] at hr1 hr2 HRK
   simp only at hr1 hr2 HRK
   have hgz:((n:Nat):Int) + 1 - 1 = (n:Int):=by omega
   have n0:(0:Int) ≤ (n:Int):=by omega
   have n1:(n:Int) < ((Ws.length:Nat):Int):=by omega
   have n2:((Ws.length:Nat):Int) - 1 = (n:Int):=by omega
   have n3:(0:Int) < ((Ws.length:Nat):Int):=by omega
   have n4:((Ws.length:Nat):Int) > 0:=by omega
   clear hkeep hks hrk hown hmap hbut hv hgc hx he hqq hew he' hcl hbo1 hr
   cases a8 with
   | some a =>
    obtain ⟨i,f,ha,hf,hg⟩:=hr2 a rfl
    subst ha
    obtain ⟨y,hy⟩:∃ y,(⟨b,o + i * 6,none⟩:Addr) = y:=⟨_,rfl⟩
    have hyat:=hbo2 f i hf
    have hil:i < e'.args.len:=by
     by_cases hlt:i < e'.args.len
     ·exact hlt
     ·rw [PL.at_none _ _ oq] at hf;cases hf
    have hyo:=hbo3 i hil
    have hfs:f.sz < e'.sz:=by
     obtain ⟨e3,he3,h5⟩:=PL.at_some e'.args i hil
     rw [hf] at he3
     injection he3 with he3
     subst he3
     have:=szFrom_le e'.args i
     omega
    rw [hy] at hg hyat hyo HRK
    have hput:=putQ_nodup (k:=y) (v:=.int .i64 0) HV.out.nodup
    have hnew:=congrArg List.length (putQ_new (v:=.int .i64 0) hg)
    have HV2:=hid (HV.out.push HX.out HE.out hyat hyo hfs hg)
    have hfew2:=HV2.out.few
    have HKY:=hid (hyat.k0.keep (fun b cs t h => ⟨cs,(HKEEP.out b cs t h).trans h⟩))
    obtain ⟨i0,hi0,hi1,hi2,hi3⟩:=info_parts infoPtr
    have HI:=hid (And.intro hi0 (And.intro hi1 (And.intro hi2 hi3)))
    rw [List.length_append] at hnew
    simp only [List.length_singleton] at hnew
    clear hi0 hi1 hi2 hi3 hr1 hr2 hf hg hyat hyo hfs hbo2 hbo3 hy hil hput
    go_wp2_with (first | (go_at_call 194;refine HRK.out.mono ?_;rintro yy w2 ⟨rfl,m2,rfl⟩) | (at_mapUpdate;refine wpList_putQ valuesMap _ rfl _ _ _ rfl mq L y (.int .i64 0) rfl rfl rfl (HM.out.keep rfl) HKS.out HKY.out ?_;intro w6 hu6 hs6 hm6;have HM6:=hid hm6;have hb6:But (fun k => k = mq) wo w6:=((But.refl _ wo).drewN m2).trans (But.of_upon hu6);have HB6:=hid hb6;have HO6:=hid (hb6.own HOWN.out (fun k hk e => by have:=own_ge' HOWN.out k hk;omega));have hz6:=hb6.size;clear hu6 hs6 hm6 hb6) | (refine lite.wpList_append_gen _ (by rfl) _ _ _ (by rfl) w.heap.size 277 i0 _ 1 8 Tryz.underlying291 HI.out.1 HI.out.2.1 HI.out.2.2.1 HI.out.2.2.2 rfl oq (.slice (some ⟨g,0,none⟩) (n + 1) c5) (n + 1) (ptrs Ws) (by rfl) (own_below HO6.out bq) (some ⟨w6.heap.size,0,none⟩) 1 1 [.pointer (some y)] (by rfl) (by rfl) (fun j u h => ⟨_,rfl,World.news_of_block (heap_alloc_new _ _) j u h⟩) (by simp [Value.oneCell']) (by unfold maxLen;omega) oq (by simp only [World.size_alloc];omega) ?_;intro v9 w9 hown9 hg9 hl9;have HO9:=hid hown9;have hb9:But (fun k => (Value.slice (some ⟨g,0,none⟩) (n + 1) c5).ownBlock = some k) w6 w9:=(But.of_below ((Below.refl _ _).alloc (Nat.le_refl _) _)).then (But.of_grown hg9) (fun _ _ e => e);have HB9:=hid hb9;clear hown9 hg9 hl9 hb9))
    have hob:∀ k,(Value.slice (some ⟨g,0,none⟩) (n + 1) c5).ownBlock = some k → k = g:=fun k h => by
     injection h with h
     exact h.symm
    obtain ⟨a6,c6,rfl⟩:=ownR_form HO9.out
    have hm9:MapQ w9 mq (putQ y (.int .i64 0) L):=HM6.out.keep (HB9.out.block mq HM6.out.lt (fun e => by have:=hob _ e;omega))
    refine ⟨hid ⟨Ws ++ [y],putQ y (.int .i64 0) L,HV2.out,?_,hm9,?_⟩,?_⟩
    ·rw [ptrs_app,List.length_append,hn]
     exact HO9.out
    ·exact (HBUT.out.trans HB6.out).then HB9.out (fun i hi e => by have:=hob _ e;omega)
    ·rw [hm9.msz,hmz,hnew]
     show 2 * (occ.length - (L.length + 1)) + (n + 1 + 1) < 2 * (occ.length - L.length) + Ws.length
     omega
   | none =>
    have hr1:=hr1 rfl
    subst hr1
    have hput:=putQ_nodup (k:=(⟨bx1,ox1,none⟩:Addr)) (v:=.int .i64 (evE T e')) HV.out.nodup
    have HV2:=hid (HV.out.pop H0.out HX.out HE.out)
    have hfew2:=HV2.out.few
    have HKX:=hid (HE.out.k0.keep (fun b cs t h => ⟨cs,(HKEEP.out b cs t h).trans h⟩))
    obtain ⟨ev,hev⟩:∃ ev,evE T e' = ev:=⟨_,rfl⟩
    rw [hev] at HV2 HRK hput hfew2
    clear hr2 hbo2 hbo3 hev
    go_upto_region 8 with (go_at_call 194;refine HRK.out.mono ?_;rintro yy w2 ⟨rfl,m2,rfl⟩)
    obtain ⟨W,hW2⟩:∃ W,wo.drewN m2 = W:=⟨_,rfl⟩
    have b2:W.cell? ⟨rb,1,none⟩ = some (.map (some mq)):=by rw [← hW2];exact b1
    have c2:W.cell? ⟨g,n,none⟩ = some (.pointer (some ⟨bx1,ox1,none⟩)):=by rw [← hW2];exact c1
    have HBW:=hid (show But (fun k => k = mq) wo W.drew by rw [← hW2];exact ((But.refl _ wo).drewN m2).drew)
    have HMW:=hid (show MapQ W.drew mq L by rw [← hW2];exact HM.out.keep rfl)
    have HKSW:=hid (show ∀ p ∈ L,K0 W.drew p.1 by rw [← hW2];exact HKS.out)
    have HKXW:=hid (show K0 W.drew ⟨bx1,ox1,none⟩ by rw [← hW2];exact HKX.out)
    rw [hW2]
    have n5:(n:Int) < ((n + 1:Nat):Int):=by omega
    have n7:n ≤ c5:=by omega
    have n6:(n:Int) < (n:Int) + 1:=by omega
    clear hW2
    go_still_tail 9,(by kernel_rfl)
    change wpList _ _ _ _ _ W.drew
    go_wp2_with (at_mapUpdate;refine wpList_putQ valuesMap _ rfl _ _ _ rfl mq L ⟨bx1,ox1,none⟩ (.int .i64 ev) rfl rfl rfl HMW.out HKSW.out HKXW.out ?_;intro w6 hu6 hs6 hm6;have HM6:=hid hm6;have hb6:But (fun k => k = mq) wo w6:=HBW.out.trans (But.of_upon hu6);have HB6:=hid hb6;have HO6:=hid (hb6.own HOWN.out (fun k hk e => by have:=own_ge' HOWN.out k hk;omega));have hz6:=hb6.size;clear hu6 hs6 hm6 hb6)
    have htl:(Ws.take (Ws.length - 1)).length = n:=by rw [List.length_take];omega
    refine ⟨hid ⟨Ws.take (Ws.length - 1),putQ ⟨bx1,ox1,none⟩ (.int .i64 ev) L,HV2.out,?_,HM6.out,HBUT.out.trans HB6.out⟩,?_⟩
    ·rw [htl,hnn,← ptrs_take]
     exact own_take HO6.out oq
    ·rw [HM6.out.msz,hmz]
     show 2 * (occ.length - (putQ ⟨bx1,ox1,none⟩ (.int .i64 ev) L).length) + n < 2 * (occ.length - L.length) + Ws.length
     have:=hput.2
     omega
end Go.Proofs.YtpjficjlfibibaaGreatDoor.syn
namespace Go.Proofs.YtpjficjlfibibaaGreatDoor.arith
open Go.RowKit
set_option linter.unusedVariables false
theorem pair_int {a b c d:Int} (h:a = b) (h':c = d):Ending.returned (.tuple #[.int .i64 a,.int .i64 c]) = .returned (.tuple #[.int .i64 b,.int .i64 d]):=by rw [h,h']
theorem floor_pos (n d:Int) (w:World) (hd:1 ≤ d) (h1:-9223372036854775808 ≤ n) (h2:n ≤ 9223372036854775807) (h3:d ≤ 9223372036854775807) :
  Calls Tryz.prog 195 #[.int .i64 n,.int .i64 d] w fun e w' => e = .returned (.tuple #[.int .i64 (n / d),.int .i64 (n % d)]) ∧ ∃ m,w' = w.drewN m:=by
 go_enter Tryz.func195,Tryz.ntmps195
 go_wp2
 go_quiet (fail)
 go_wp2
 all_goals go_ret2
 ·have hm:n.tmod d < 0:=by assumption
  have H:=plain.floor_neg n d hd h1 h2 h3 hm
  exact ⟨pair_int H.1 H.2,_,rfl⟩
 ·have hm:0 ≤ n.tmod d:=by assumption
  have H:=plain.floor_nonneg n d hd hm
  exact ⟨pair_int H.1 H.2,_,rfl⟩
theorem below_drewN {B:Nat} {a w:World} (h:Below B a w) (n:Nat):Below B a (w.drewN n):=⟨h.os,h.tape,h.output,h.size,h.block⟩
theorem bcell {W w1:World} (hb:Below W.heap.size W w1):(∀ b o,b < W.heap.size → w1.cell? ⟨b,o,none⟩ = W.cell? ⟨b,o,none⟩) ∧ (∀ b o,b < W.heap.size → w1.frozen? ⟨b,o,none⟩ = W.frozen? ⟨b,o,none⟩) :=
 ⟨fun b o h => hb.cell (p:=⟨b,o,none⟩) h,fun b o h => hb.frozen (p:=⟨b,o,none⟩) h⟩
theorem mul_pos1 {a b:Int} (ha:1 ≤ a) (hb:1 ≤ b):1 ≤ a * b:=by
 have:=Int.mul_le_mul ha hb (by omega) (by omega);omega
end Go.Proofs.YtpjficjlfibibaaGreatDoor.arith
namespace Go.Proofs.YtpjficjlfibibaaGreatDoor.clock
open Go.RowKit
set_option linter.unusedVariables false
def wthB (n a b:Int):Bool:=decide (a ≤ n ∧ n ≤ b)
theorem wth_yes {n a b:Int} (h1:a ≤ n) (h2:n ≤ b):wthB n a b = true:=by unfold wthB;simp;omega
theorem wth_no {n a b:Int} (h:n < a ∨ b < n):wthB n a b = false:=by unfold wthB;simp;omega
theorem bool_eq {a b:Bool} (h:a = b):Ending.returned (.bool a) = .returned (.bool b):=by rw [h]
theorem within_any (n a b:Int) (w:World) :
  Calls Tryz.prog 55 #[.int .i64 n,.int .i64 a,.int .i64 b] w fun e w' => e = .returned (.bool (wthB n a b)) ∧ w = w':=by
 by_cases h1:a ≤ n
 ·by_cases h2:n ≤ b
  ·have E:=Lib.hid (wth_yes h1 h2)
   go_enter Tryz.func55,Tryz.ntmps55
   go_wp2
   go_ret
   exact ⟨bool_eq (by rw [E.out];try (simp;omega)),rfl⟩
  ·have E:=Lib.hid (wth_no (n:=n) (a:=a) (b:=b) (by omega))
   have h2':b < n:=by omega
   clear h2
   go_enter Tryz.func55,Tryz.ntmps55
   go_wp2
   go_ret
   exact ⟨bool_eq (by rw [E.out];try (simp;omega)),rfl⟩
 ·have E:=Lib.hid (wth_no (n:=n) (a:=a) (b:=b) (by omega))
  have h1':n < a:=by omega
  clear h1
  go_enter Tryz.func55,Tryz.ntmps55
  go_wp2
  go_ret
  exact ⟨bool_eq (by rw [E.out];try (simp;omega)),rfl⟩
theorem within_yes (n a b:Int) (w:World) (h1:a ≤ n) (h2:n ≤ b) :
  Calls Tryz.prog 55 #[.int .i64 n,.int .i64 a,.int .i64 b] w fun e w' => e = .returned (.bool true) ∧ w = w':=by
 have H:=within_any n a b w;rwa [wth_yes h1 h2] at H
theorem within_no (n a b:Int) (w:World) (h:n < a ∨ b < n) :
  Calls Tryz.prog 55 #[.int .i64 n,.int .i64 a,.int .i64 b] w fun e w' => e = .returned (.bool false) ∧ w = w':=by
 have H:=within_any n a b w;rwa [wth_no h] at H
def rightB (p f:Int):Bool:=decide (1 ≤ p ∧ p ≤ 2000 ∧ 0 ≤ f ∧ f ≤ 2000)
theorem right_yes {p f:Int} (h:1 ≤ p ∧ p ≤ 2000 ∧ 0 ≤ f ∧ f ≤ 2000):rightB p f = true:=by unfold rightB;simp;omega
theorem right_no {p f:Int} (h:¬ (1 ≤ p ∧ p ≤ 2000 ∧ 0 ≤ f ∧ f ≤ 2000)):rightB p f = false:=by unfold rightB;simp;omega
theorem right_iff {p f:Int}:rightB p f = true ↔ (1 ≤ p ∧ p ≤ 2000 ∧ 0 ≤ f ∧ f ≤ 2000):=by unfold rightB;simp
theorem right_true (p f:Int) (w:World) (h:1 ≤ p ∧ p ≤ 2000 ∧ 0 ≤ f ∧ f ≤ 2000) :
  Calls Tryz.prog 24 #[.agg #[.int .i64 p,.int .i64 f]] w fun e w' => e = .returned (.bool true) ∧ Below w.heap.size w w':=by
 go_enter Tryz.func24,Tryz.ntmps24
 go_wp2_with (first | (go_at_call 55;refine (within_yes _ _ _ _ (by omega) (by omega)).mono ?_;rintro e w' ⟨rfl,rfl⟩))
 go_ret
 exact ⟨rfl,(Below.refl _ _).alloc (Nat.le_refl _) _⟩
theorem right_false (p f:Int) (w:World) (h:¬ (1 ≤ p ∧ p ≤ 2000 ∧ 0 ≤ f ∧ f ≤ 2000)) :
  Calls Tryz.prog 24 #[.agg #[.int .i64 p,.int .i64 f]] w fun e w' => e = .returned (.bool false) ∧ Below w.heap.size w w':=by
 by_cases hp:1 ≤ p ∧ p ≤ 2000
 ·have hf:f < 0 ∨ 2000 < f:=by omega
  clear h
  have HF:=Lib.hid (fun w => within_no f 0 2000 w hf)
  go_enter Tryz.func24,Tryz.ntmps24
  go_wp2_with (first | (go_at_call 55;with_reducible refine (HF.out _).mono ?_;rintro e w' ⟨rfl,rfl⟩) | (go_at_call 55;refine (within_yes _ _ _ _ (by omega) (by omega)).mono ?_;rintro e w' ⟨rfl,rfl⟩))
  go_ret
  exact ⟨rfl,(Below.refl _ _).alloc (Nat.le_refl _) _⟩
 ·have hp':p < 1 ∨ 2000 < p:=by omega
  clear h hp
  have HF:=Lib.hid (fun w => within_no p 1 2000 w hp')
  go_enter Tryz.func24,Tryz.ntmps24
  go_wp2_with (go_at_call 55;refine (HF.out _).mono ?_;rintro e w' ⟨rfl,rfl⟩)
  go_ret
  exact ⟨rfl,(Below.refl _ _).alloc (Nat.le_refl _) _⟩
theorem right_any (p f:Int) (w:World) :
  Calls Tryz.prog 24 #[.agg #[.int .i64 p,.int .i64 f]] w fun e w' => e = .returned (.bool (rightB p f)) ∧ Below w.heap.size w w':=by
 by_cases h:1 ≤ p ∧ p ≤ 2000 ∧ 0 ≤ f ∧ f ≤ 2000
 ·rw [right_yes h];exact right_true p f w h
 ·rw [right_no h];exact right_false p f w h
theorem date_yes (p f n:Int) (w:World) (h:1 ≤ p ∧ p ≤ 2000 ∧ 0 ≤ f ∧ f ≤ 2000) (h1:0 ≤ n) (h2:n ≤ 1099511627776) :
  Calls Tryz.prog 20 #[.agg #[.int .i64 p,.int .i64 f],.int .i64 n] w fun e w' => e = .returned (.int .i64 (f + n * p)) ∧ Below w.heap.size w w':=by
 have m1:0 ≤ n * p:=Int.mul_nonneg h1 (by omega)
 have m2:n * p ≤ 1099511627776 * 2000:=Int.mul_le_mul h2 (by omega) (by omega) (by omega)
 have v1:wrap64 (n * p) = n * p:=IntWalk.wrap64_in _ (by omega)
 have HR:=Lib.hid (fun w => right_true p f w h)
 go_enter Tryz.func20,Tryz.ntmps20
 go_wp2_with (first | (go_at_call 24;refine (HR.out _).mono ?_;rintro e w1 ⟨rfl,hb⟩;obtain ⟨hc,hf⟩:=arith.bcell hb) | (go_at_call 55;refine (within_yes _ _ _ _ (by omega) (by omega)).mono ?_;rintro e w' ⟨rfl,rfl⟩))
 go_ret
 exact ⟨rfl,((Below.refl _ _).alloc (Nat.le_refl _) _).trans (hb.mono (by simp))⟩
theorem date_no (p f n:Int) (w:World) (h:¬ ((1 ≤ p ∧ p ≤ 2000 ∧ 0 ≤ f ∧ f ≤ 2000) ∧ 0 ≤ n ∧ n ≤ 1099511627776)) :
  Calls Tryz.prog 20 #[.agg #[.int .i64 p,.int .i64 f],.int .i64 n] w fun e w' => e = .returned (.int .i64 0) ∧ Below w.heap.size w w':=by
 by_cases hr:1 ≤ p ∧ p ≤ 2000 ∧ 0 ≤ f ∧ f ≤ 2000
 ·have hn:n < 0 ∨ 1099511627776 < n:=by omega
  have HR:=Lib.hid (fun w => right_true p f w hr)
  have HN:=Lib.hid (fun w => within_no n 0 1099511627776 w hn)
  clear h hr hn
  go_enter Tryz.func20,Tryz.ntmps20
  go_wp2_with (first | (go_at_call 24;refine (HR.out _).mono ?_;rintro e w1 ⟨rfl,hb⟩;obtain ⟨hc,hf⟩:=arith.bcell hb) | (go_at_call 55;refine (HN.out _).mono ?_;rintro e w' ⟨rfl,rfl⟩))
  go_ret
  exact ⟨rfl,((Below.refl _ _).alloc (Nat.le_refl _) _).trans (hb.mono (by simp))⟩
 ·have HR:=Lib.hid (fun w => right_false p f w hr)
  clear h hr
  go_enter Tryz.func20,Tryz.ntmps20
  go_wp2_with (first | (go_at_call 24;refine (HR.out _).mono ?_;rintro e w1 ⟨rfl,hb⟩;obtain ⟨hc,hf⟩:=arith.bcell hb))
  go_ret
  exact ⟨rfl,((Below.refl _ _).alloc (Nat.le_refl _) _).trans (hb.mono (by simp))⟩
end Go.Proofs.YtpjficjlfibibaaGreatDoor.clock
