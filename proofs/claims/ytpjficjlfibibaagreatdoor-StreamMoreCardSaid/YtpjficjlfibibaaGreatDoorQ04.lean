/-
  Parts of the proof: Gath1, Plain, BodyOp, EvlP, MapQ, Lite.
-/
import Derived.Maps.AppendAt
import Derived.Deep.AppendLies
import Derived.Laws.OwnMore
import Derived.Test.YtpjficjlfibibaaGreatDoorQ02
import Derived.Test.YtpjficjlfibibaaGreatDoorQ03
import Derived.Test.YtpjficjlfibibaaGreatDoorQ01
import Derived.IntWalk
import Derived.Test.YtpjficjlfibibaaGreatDoorChecked
import Derived.WalkKit
import Derived.ProofKit
import Derived.OpenShut
import Derived.Handy
import Derived.BigQuiet
import Derived.Deep.QuietTactic
import Derived.Lib.Hide
import Derived.Lib.Strings
import Derived.Below
namespace Go.Proofs.YtpjficjlfibibaaGreatDoor.syn
open Go.RowKit
set_option linter.unusedVariables false
set_option linter.unusedSimpArgs false
def T3:Nat → Nat
 | 0 => 3
 | 1 => 4
 | 2 => 5
 | p + 3 => 2 * T3 p
theorem T3_succ:∀ p,T3 p + 1 ≤ T3 (p + 1)
 | 0 => by decide
 | 1 => by decide
 | 2 => by decide
 | p + 3 => by have:=T3_succ p;show 2 * T3 p + 1 ≤ 2 * T3 (p + 1);omega
theorem T3_mono {p q:Nat} (h:p ≤ q):T3 p ≤ T3 q:=by
 induction h with
 | refl => exact Nat.le_refl _
 | step _ ih => exact Nat.le_trans ih (Nat.le_of_succ_le (T3_succ _))
theorem T3_top {p:Nat} (h:p ≤ 101):T3 p ≤ 60000000000:=Nat.le_trans (T3_mono h) (by decide)
def PL.at:PL → Nat → Option PE
 | .nil,_ => none
 | .cons k nm n d args a _,0 => some ⟨k,nm,n,d,args,a⟩
 | .cons _ _ _ _ _ _ tl,i + 1 => tl.at i
def PL.szFrom:PL → Nat → Nat
 | .nil,_ => 0
 | .cons _ _ _ _ args _ tl,0 => args.sz + 1 + tl.sz
 | .cons _ _ _ _ _ _ tl,i + 1 => tl.szFrom i
theorem PL.szFrom0:∀ l:PL,l.szFrom 0 = l.sz
 | .nil => rfl
 | .cons _ _ _ _ _ _ _ => rfl
theorem PL.at_some:∀ (l:PL) (i:Nat),i < l.len → ∃ e,l.at i = some e ∧ l.szFrom i = e.sz + l.szFrom (i + 1)
 | .nil,i,h => absurd h (Nat.not_lt_zero _)
 | .cons k nm n d args a tl,0,_ => ⟨⟨k,nm,n,d,args,a⟩,rfl,by show args.sz + 1 + tl.sz = (args.sz + 1) + tl.szFrom 0;rw [PL.szFrom0]⟩
 | .cons _ _ _ _ _ _ tl,i + 1,h => tl.at_some i (Nat.lt_of_succ_lt_succ h)
def Ar2:PL → Prop
 | .nil => True
 | .cons _ _ _ _ args _ tl => (args = .nil ∨ 2 ≤ args.len) ∧ Ar2 args ∧ Ar2 tl
def Ar2E (e:PE):Prop:=(e.args = .nil ∨ 2 ≤ e.args.len) ∧ Ar2 e.args
theorem Ar2.at:∀ (l:PL) (i:Nat) (e:PE),Ar2 l → l.at i = some e → Ar2E e
 | .cons k nm n d args a tl,0,e,h,he => by injection he with he;subst he;exact ⟨h.1,h.2.1⟩
 | .cons _ _ _ _ _ _ tl,i + 1,e,h,he => Ar2.at tl i e h.2.2 he
theorem len_le_sz:∀ l:PL,l.len ≤ l.sz
 | .nil => Nat.le_refl _
 | .cons _ _ _ _ args _ tl => by have:=len_le_sz tl;simp only [PL.len,PL.sz];omega
theorem len0 {l:PL} (h:l.len = 0):l = .nil:=by cases l with | nil => rfl | cons _ _ _ _ _ _ _ => simp [PL.len] at h
theorem Ar2E.three {e:PE} (h:Ar2E e) (hn:e.args.len ≠ 0):3 ≤ e.sz:=by
 rcases h.1 with h | h
 ·rw [h] at hn;exact absurd rfl hn
 ·have:=len_le_sz e.args;unfold PE.sz;omega
theorem bd_two {k n d:Int} {nm:ByteArray} {len:Nat} (h:bdE k n d nm len = true):len = 0 ∨ 2 ≤ len:=by
 unfold bdE at h
 split at h
 ·cases h
 ·split at h
  ·simp at h;omega
  ·split at h
   ·simp at h;omega
   ·split at h
    ·cases h
    ·split at h
     ·simp at h;omega
     ·split at h
      ·simp at h;omega
      ·cases h
theorem bdR_ar2:∀ l:PL,bdR l = true → Ar2 l
 | .nil,_ => trivial
 | .cons k nm n d args a tl,h => by
  rw [bdR,Bool.and_eq_true,Bool.and_eq_true] at h
  refine ⟨?_,bdR_ar2 args h.1.1,bdR_ar2 tl h.2⟩
  rcases bd_two h.1.2 with h | h
  ·exact .inl (len0 h)
  ·exact .inr h
theorem bodyB_ar2 {e:PE} (h:bodyB e = true):Ar2E e:=by
 unfold bodyB at h
 rw [Bool.and_eq_true] at h
 refine ⟨?_,bdR_ar2 _ h.1⟩
 rcases bd_two h.2 with h | h
 ·exact .inl (len0 h)
 ·exact .inr h
structure ExpAt (W:World) (b o:Nat) (e:PE):Prop where
 lt:b < W.heap.size
 fz:W.frozen? ⟨b,o,none⟩ = false
 c0:W.cell? ⟨b,o,none⟩ = some (.int .i64 e.k)
 c1:W.cell? ⟨b,o + 1,none⟩ = some (.string e.nm)
 c2:W.cell? ⟨b,o + 2,none⟩ = some (.int .i64 e.n)
 c3:W.cell? ⟨b,o + 3,none⟩ = some (.int .i64 e.d)
 c5:W.cell? ⟨b,o + 5,none⟩ = some (.int .i64 e.a)
 c4:∃ ad cap,W.cell? ⟨b,o + 4,none⟩ = some (.slice ad e.args.len cap) ∧ (e.args = .nil ∨ ∃ b' o',ad = some ⟨b',o',none⟩ ∧ b' < W.heap.size ∧ AC W e.args b' o' ∧ NF W e.args b' o')
 len:e.args.len ≤ 9223372036854775807
theorem ExpAt.ptr {W w:World} {b o:Nat} {e:PE} (h:ExpAt W b o e) (hb:Below W.heap.size W w):PtrOk w (.pointer (some ⟨b,o,none⟩)):=by
 have hc:=h.c0
 unfold World.cell? at hc
 cases hh:W.heap[b]? with
 | none => simp [hh] at hc
 | some ob =>
  cases ob with
  | cells cs t fr => exact ⟨b,o,cs,t,fr,rfl,(hb.block b h.lt).trans hh,(hb.frozen (p:=⟨b,o,none⟩) h.lt).trans h.fz⟩
  | _ => simp [hh] at hc
theorem ExpAt.child:∀ (l:PL) {W:World} {b o:Nat},b < W.heap.size → AC W l b o → NF W l b o → ∀ i e,l.at i = some e → ExpAt W b (o + i * 6) e
 | .cons k nm n d args a tl,W,b,o,hlt,hac,hnf,0,e,he => by
  injection he with he
  subst he
  obtain ⟨h0,h1,h2,h3,h5,hn,⟨ad,cap,h4,hcap,hm,hd⟩,ht⟩:=hac
  rw [Nat.zero_mul,Nat.add_zero]
  refine ⟨hlt,hnf.1,h0,h1,h2,h3,h5,⟨ad,cap,h4,?_⟩,Nat.le_trans hcap hm⟩
  rcases hd with hd | ⟨b',o',rfl,hb',hd⟩
  ·exact .inl hd
  ·exact .inr ⟨b',o',rfl,hb',hd,hnf.2.1 b' o' cap h4⟩
 | .cons _ _ _ _ _ _ tl,W,b,o,hlt,hac,hnf,i + 1,e,he => by
  have:=ExpAt.child tl hlt hac.2.2.2.2.2.2.2 hnf.2.2 i e he
  rw [show o + (i + 1) * 6 = o + 6 + i * 6 by omega]
  exact this
structure SE where
 b:Nat
 o:Nat
 next:Nat
 fr:Nat
 e:PE
def SE.v (s:SE):List Value:=[.pointer (some ⟨s.b,s.o,none⟩),.int .i64 s.next,.int .i64 s.fr]
def ysOf (stk:List SE):List Value:=stk.flatMap SE.v
def remS:List SE → Nat
 | [] => 0
 | s :: l => s.e.args.szFrom s.next + remS l
theorem remS_append (a b:List SE):remS (a ++ b) = remS a + remS b:=by
 induction a with
 | nil => simp [remS]
 | cons s l ih => simp only [List.cons_append,remS,ih];omega
theorem ysOf_append (a b:List SE):ysOf (a ++ b) = ysOf a ++ ysOf b:=by simp [ysOf]
theorem ysOf_len:∀ l:List SE,(ysOf l).length = l.length * 3:=by
 intro l
 induction l with
 | nil => rfl
 | cons s l ih => show (s.v ++ ysOf l).length = _;rw [List.length_append,ih,List.length_cons];show 3 + _ = _;omega
def PcV (nn:Nat) (v:Value):Prop:=∃ f t:Nat,v = .agg #[.int .i64 f,.int .i64 t] ∧ f ≤ t ∧ t ≤ nn
theorem PcV.mono {n m:Nat} (h:n ≤ m) {v:Value} (hv:PcV n v):PcV m v:=by obtain ⟨f,t,rfl,h1,h2⟩:=hv;exact ⟨f,t,rfl,h1,by omega⟩
def NmR (xs:List Value) (nn:Nat):Prop:=(∀ u ∈ xs,u.oneCell' = true) ∧ ∀ j,j < nn → ∃ (k:Int) (nm:ByteArray) (n d a:Int),xs[j * 6]? = some (.int .i64 k) ∧ xs[j * 6 + 1]? = some (.string nm) ∧ xs[j * 6 + 2]? = some (.int .i64 n) ∧ xs[j * 6 + 3]? = some (.int .i64 d) ∧
 xs[j * 6 + 4]? = some (.slice none 0 0) ∧ xs[j * 6 + 5]? = some (.int .i64 a)
def KeyG (W1:World) (v:Value):Prop:=∃ b o e,v = .pointer (some ⟨b,o,none⟩) ∧ ExpAt W1 b o e
theorem KeyG.ptr {W1 w:World} (hb:Below W1.heap.size W1 w) (v:Value) (h:KeyG W1 v):PtrOk w v:=by obtain ⟨b,o,e,rfl,h⟩:=h;exact h.ptr hb
def gbObj (vn vo:Value) (mb:Nat):Obj:=.cells #[vn,vo,.map (some mb)] 300 (0,0)
structure GW (W1:World) (gb mb nn:Nat) (stk:List SE) (w:World):Prop where
 low:Below W1.heap.size W1 w
 hgb:W1.heap.size ≤ gb
 hmb:W1.heap.size ≤ mb
 sta:∃ vn vo xs,w.heap[gb]? = some (gbObj vn vo mb) ∧ w.ownsRow W1.heap.size 95 6 vn nn xs ∧ NmR xs nn ∧ w.ownsRow W1.heap.size 314 3 vo stk.length (ysOf stk)
 map:MapP w mb (KeyG W1) (PcV nn)
 stk:∀ s ∈ stk,ExpAt W1 s.b s.o s.e ∧ s.next ≤ s.e.args.len ∧ s.fr ≤ nn ∧ Ar2E s.e
theorem NmR.nil:NmR [] 0:=⟨fun u h => (by cases h),fun j h => absurd h (Nat.not_lt_zero _)⟩
theorem NmR.snoc {xs ys:List Value} {n m:Nat} (hx:xs.length = n * 6) (h:NmR xs n) (k:NmR ys m):NmR (xs ++ ys) (n + m):=by
 refine ⟨fun u hu => ?_,fun j hj => ?_⟩
 ·rcases List.mem_append.1 hu with hu | hu
  ·exact h.1 u hu
  ·exact k.1 u hu
 ·by_cases hjn:j < n
  ·obtain ⟨k,nm,a,b,c,h0,h1,h2,h3,h4,h5⟩:=h.2 j hjn
   refine ⟨k,nm,a,b,c,?_,?_,?_,?_,?_,?_⟩
   all_goals (rw [List.getElem?_append_left oq];assumption)
  ·obtain ⟨k,nm,a,b,c,h0,h1,h2,h3,h4,h5⟩:=k.2 (j - n) oq
   have e:∀ i,i < 6 → (xs ++ ys)[j * 6 + i]? = ys[(j - n) * 6 + i]?:=fun i hi => by rw [List.getElem?_append_right oq];congr 1;omega
   exact ⟨k,nm,a,b,c,(e 0 oq).trans h0,(e 1 oq).trans h1,(e 2 oq).trans h2,(e 3 oq).trans h3,(e 4 oq).trans h4,(e 5 oq).trans h5⟩
theorem NmR.part {xs:List Value} {n f t:Nat} (hx:xs.length = n * 6) (h:NmR xs n) (hft:f ≤ t) (htn:t ≤ n):NmR ((xs.drop (f * 6)).take ((t - f) * 6)) (t - f):=by
 refine ⟨fun u hu => h.1 u (List.mem_of_mem_drop (List.mem_of_mem_take hu)),fun j hj => ?_⟩
 obtain ⟨k,nm,a,b,c,h0,h1,h2,h3,h4,h5⟩:=h.2 (f + j) oq
 have e:∀ i,i < 6 → ((xs.drop (f * 6)).take ((t - f) * 6))[j * 6 + i]? = xs[(f + j) * 6 + i]?:=fun i hi => by rw [List.getElem?_take_of_lt oq,List.getElem?_drop];congr 1;omega
 exact ⟨k,nm,a,b,c,(e 0 oq).trans h0,(e 1 oq).trans h1,(e 2 oq).trans h2,(e 3 oq).trans h3,(e 4 oq).trans h4,(e 5 oq).trans h5⟩
structure Chg (S:Nat → Prop) (w w':World):Prop where
 os:w'.os = w.os
 tape:w'.tape = w.tape
 output:w'.output = w.output
 size:w.heap.size ≤ w'.heap.size
 block:∀ k,k < w.heap.size → ¬ S k → w'.heap[k]? = w.heap[k]?
theorem ne_own {w:World} {base:Nat} {e:TypeId} {size:Nat} {v:Value} {n:Nat} {xs:List Value} (h:w.ownsRow base e size v n xs) {b:Nat} (hb:∀ cur,w.heap[b]? ≠ some (.cells cur e (0,0))):v.ownBlock ≠ some b:=by
 intro he
 rcases h.2 with ⟨h1,_⟩ | ⟨g,cap,cur,h1,_,hg,_⟩
 ·rw [h1] at he;cases he
 ·rw [h1] at he
  injection he with he
  have he:g = b:=he
  subst he
  exact hb cur hg
theorem ownsRow_to {w w':World} {base:Nat} {e:TypeId} {size:Nat} {v:Value} {n:Nat} {xs:List Value} (h:w.ownsRow base e size v n xs) (hb:∀ k,v.ownBlock = some k → w'.heap[k]? = w.heap[k]?):w'.ownsRow base e size v n xs:=by
 refine ⟨h.1,?_⟩
 rcases h.2 with h1 | ⟨g,cap,cur,h1,h2,hg,h3⟩
 ·exact .inl h1
 ·exact .inr ⟨g,cap,cur,h1,h2,(hb g (by rw [h1];rfl)).trans hg,h3⟩
theorem GW.names {W1 w w':World} {gb mb nn nn':Nat} {stk:List SE} (h:GW W1 gb mb nn stk w) {vn vo v':Value} {xs xs':List Value} (hgb:w.heap[gb]? = some (gbObj vn vo mb)) (hon:w.ownsRow W1.heap.size 95 6 vn nn xs)
  (hc:Chg (fun k => k = gb ∨ vn.ownBlock = some k) w w') (hg':w'.heap[gb]? = some (gbObj v' vo mb)) (hon':w'.ownsRow W1.heap.size 95 6 v' nn' xs') (hnm:NmR xs' nn') (hle:nn ≤ nn'):GW W1 gb mb nn' stk w':=by
 obtain ⟨vn2,vo2,xs2,hgb2,hon2,hnm2,hoo⟩:=h.sta
 have e:=hgb.symm.trans hgb2
 simp only [gbObj,Option.some.injEq,Obj.cells.injEq,Array.mk.injEq,List.cons.injEq,and_true,true_and] at e
 obtain ⟨rfl,rfl⟩:=e
 have hml:=h.map.lt
 have hlow:=h.low.size
 have hmo:¬ (mb = gb ∨ vn.ownBlock = some mb):=by
  obtain ⟨arr,clock,hm,_⟩:=h.map
  rintro (e | e)
  ·rw [e,hgb] at hm;cases hm
  ·exact ne_own hon (b:=mb) (fun cur e2 => by rw [hm] at e2;cases e2) e
 refine ⟨⟨hc.os.trans h.low.os,hc.tape.trans h.low.tape,hc.output.trans h.low.output,Nat.le_trans h.low.size hc.size,fun k hk => ?_⟩,h.hgb,h.hmb,⟨v',vo,xs',hg',hon',hnm,?_⟩,h.map.keep (hc.block mb hml hmo) (fun v hv => hv.mono hle),fun s hs => ?_⟩
 ·have hkb:¬ (k = gb ∨ vn.ownBlock = some k):=by
   have:=h.hgb
   rintro (e | e)
   ·omega
   ·have:=(hon.lt k e).1;omega
  exact (hc.block k oq hkb).trans (h.low.block k hk)
 ·refine ownsRow_to hoo fun k hk => hc.block k (hoo.lt k hk).2 ?_
  rintro (e | e)
  ·rw [e] at hk
   exact ne_own hoo (b:=gb) (fun cur e2 => by rw [hgb] at e2;injection e2 with e2;injection e2 with _ e2 _;exact absurd e2 (by decide)) hk
  ·rcases hon.2 with ⟨h1,_⟩ | ⟨g,cap,cur,h1,_,hg,_⟩
   ·rw [h1] at e;cases e
   ·rw [h1] at e
    injection e with e
    have e:g = k:=e
    subst e
    exact ne_own hoo (b:=g) (fun cur2 e2 => by rw [hg] at e2;injection e2 with e2;injection e2 with _ e2 _;exact absurd e2 (by decide)) hk
 ·obtain ⟨h1,h2,h3,h4⟩:=h.stk s hs
  exact ⟨h1,h2,Nat.le_trans h3 hle,h4⟩
end Go.Proofs.YtpjficjlfibibaaGreatDoor.syn
namespace Go.Proofs.YtpjficjlfibibaaGreatDoor.plain
open Go.RowKit (wrap64)
set_option linter.unusedVariables false
theorem tdiv_of (n d:Int) (hd:1 ≤ d):n.tdiv d = if n.tmod d < 0 then n / d + 1 else n / d:=by
 have e1:=Int.mul_tdiv_add_tmod n d
 have e2:=Int.mul_ediv_add_emod n d
 have hm:=Int.emod_nonneg n (show d ≠ 0 by omega)
 have hl:=Int.emod_lt_of_pos n (show 0 < d by omega)
 have ha:=Int.tmod_lt_of_pos n (show 0 < d by omega)
 have hb:-d < n.tmod d:=by
  have:=Int.lt_tmod_of_pos n (show 0 < d by omega)
  omega
 split
 ·rename_i h
  have e3:d * (n.tdiv d - (n / d + 1)) = n % d - n.tmod d - d:=by rw [Int.mul_sub,Int.mul_add];omega
  have:n.tdiv d - (n / d + 1) = 0:=by
   apply Classical.byContradiction;intro hne
   rcases Int.lt_or_gt_of_ne hne with h1 | h1
   ·have:d * (n.tdiv d - (n / d + 1)) ≤ d * (-1):=Int.mul_le_mul_of_nonneg_left (by omega) (by omega)
    omega
   ·have:d * 1 ≤ d * (n.tdiv d - (n / d + 1)):=Int.mul_le_mul_of_nonneg_left (by omega) (by omega)
    omega
  omega
 ·rename_i h
  have e3:d * (n.tdiv d - n / d) = n % d - n.tmod d:=by rw [Int.mul_sub];omega
  have:n.tdiv d - n / d = 0:=by
   apply Classical.byContradiction;intro hne
   rcases Int.lt_or_gt_of_ne hne with h1 | h1
   ·have:d * (n.tdiv d - n / d) ≤ d * (-1):=Int.mul_le_mul_of_nonneg_left (by omega) (by omega)
    omega
   ·have:d * 1 ≤ d * (n.tdiv d - n / d):=Int.mul_le_mul_of_nonneg_left (by omega) (by omega)
    omega
  omega
theorem tmod_of (n d:Int) (hd:1 ≤ d):n.tmod d = if n.tmod d < 0 then n % d - d else n % d:=by
 have e1:=Int.mul_tdiv_add_tmod n d
 have e2:=Int.mul_ediv_add_emod n d
 have e3:=tdiv_of n d hd
 by_cases h:n.tmod d < 0
 ·rw [if_pos h] at e3 ⊢
  rw [e3,Int.mul_add] at e1;omega
 ·rw [if_neg h] at e3 ⊢
  rw [e3] at e1;omega
theorem ediv_le (n d:Int) (hd:1 ≤ d):(0 ≤ n → 0 ≤ n / d ∧ n / d ≤ n) ∧ (n < 0 → n ≤ n / d ∧ n / d < 0):=by
 constructor
 ·intro h;exact ⟨Int.ediv_nonneg h (by omega),Int.ediv_le_self _ h⟩
 ·intro h
  refine ⟨?_,Int.ediv_neg_of_neg_of_pos h (by omega)⟩
  rw [Int.le_ediv_iff_mul_le (by omega)]
  have:n * d ≤ n * 1:=Int.mul_le_mul_of_nonpos_left (by omega) (by omega)
  omega
theorem floor_neg (n d:Int) (hd:1 ≤ d) (h1:-9223372036854775808 ≤ n) (h2:n ≤ 9223372036854775807) (h3:d ≤ 9223372036854775807) (h:n.tmod d < 0) :
  wrap64 (n.tdiv d - 1) = n / d ∧ wrap64 (n.tmod d + d) = n % d:=by
 have a:=tdiv_of n d hd
 have b:=tmod_of n d hd
 have c:=ediv_le n d hd
 have hm:=Int.emod_nonneg n (show d ≠ 0 by omega)
 have hl:=Int.emod_lt_of_pos n (show 0 < d by omega)
 rw [if_pos h] at a b
 rw [a,b]
 by_cases h0:0 ≤ n
 ·have:=c.1 h0;constructor <;> (refine Eq.trans (IntWalk.wrap64_in _ (by omega)) (by omega))
 ·have:=c.2 (by omega);constructor <;> (refine Eq.trans (IntWalk.wrap64_in _ (by omega)) (by omega))
theorem floor_nonneg (n d:Int) (hd:1 ≤ d) (h:0 ≤ n.tmod d):n.tdiv d = n / d ∧ n.tmod d = n % d:=by
 have a:=tdiv_of n d hd
 have b:=tmod_of n d hd
 rw [if_neg (by omega)] at a b
 exact ⟨a,b⟩
def sz (a:Int):Int:=(a.natAbs:Int)
theorem getD_lt {α:Type} {l:List α} {k:Nat} (d:α) (h:k < l.length):l.getD k d = l[k]:=by
 rw [List.getD_eq_getElem?_getD,List.getElem?_eq_getElem h,Option.getD_some]
end Go.Proofs.YtpjficjlfibibaaGreatDoor.plain
namespace Go.Proofs.YtpjficjlfibibaaGreatDoor.body
open Go.RowKit
set_option linter.unusedVariables false
def opP (s:List UInt8) (a b:Int):Int :=
 if s = [43] then wrap64 (a + b)
 else if s = [45] then wrap64 (a - b)
 else if s = [42] then wrap64 (a * b)
 else if s = [47] then (if b = 0 then 0 else wrap64 (a.tdiv b))
 else if s = [37] then (if b = 0 then 0 else a.tmod b)
 else if s = [60] then (if a < b then 1 else 0)
 else if s = [61,61] then (if a = b then 1 else 0)
 else 0
theorem ret_int {k:IntKind} {a b:Int} (h:a = b):Ending.returned (.int k a) = .returned (.int k b):=by rw [h]
theorem truth_any (c:Bool) (w:World):Calls Tryz.prog 211 #[.bool c] w fun e w' => e = .returned (.int .i64 (if c = true then 1 else 0)) ∧ w = w':=by
 cases c <;> (go_enter Tryz.func211,Tryz.ntmps211;go_wp2;go_ret;exact ⟨rfl,rfl⟩)
theorem list_of {s:ByteArray} {l:List UInt8} (h:s.toList = l):s = ⟨l.toArray⟩:=by
 obtain ⟨⟨d⟩⟩:=s
 rw [Lib.toList_data] at h
 simp at h;subst h;rfl
theorem op_any (s:ByteArray) (a b:Int) (w:World) (a1:-9223372036854775808 ≤ a) (a2:a ≤ 9223372036854775807) (b1:-9223372036854775808 ≤ b) (b2:b ≤ 9223372036854775807) :
  Calls Tryz.prog 206 #[.string s,.int .i64 a,.int .i64 b] w fun e w' => e = .returned (.int .i64 (opP s.toList a b)) ∧ ∃ m,w' = w.drewN m:=by
 by_cases h1:s.toList = [43]
 ·rw [h1,show opP [43] a b = wrap64 (a + b) from rfl]
  obtain rfl:=list_of h1
  clear h1 a1 a2 b1 b2
  go_enter Tryz.func206,Tryz.ntmps206
  go_wp2
  go_ret
  exact ⟨rfl,0,rfl⟩
 by_cases h2:s.toList = [45]
 ·rw [h2,show opP [45] a b = wrap64 (a - b) from rfl]
  obtain rfl:=list_of h2
  clear h1 h2 a1 a2 b1 b2
  go_enter Tryz.func206,Tryz.ntmps206
  go_wp2
  go_ret
  exact ⟨rfl,0,rfl⟩
 by_cases h3:s.toList = [42]
 ·rw [h3,show opP [42] a b = wrap64 (a * b) from rfl]
  obtain rfl:=list_of h3
  clear h1 h2 h3 a1 a2 b1 b2
  go_enter Tryz.func206,Tryz.ntmps206
  go_wp2
  go_ret
  exact ⟨rfl,0,rfl⟩
 by_cases h4:s.toList = [47]
 ·rw [h4,show opP [47] a b = if b = 0 then 0 else wrap64 (a.tdiv b) from rfl]
  obtain rfl:=list_of h4
  clear h1 h2 h3 h4 a1 a2 b1 b2
  by_cases hb:b = 0
  ·subst hb
   go_enter Tryz.func206,Tryz.ntmps206
   go_wp2
   go_ret
   exact ⟨rfl,0,rfl⟩
  ·rw [if_neg hb]
   have hb':(b == 0) = false:=by simpa using hb
   go_enter Tryz.func206,Tryz.ntmps206
   go_wp2
   go_ret
   exact ⟨rfl,0,rfl⟩
 by_cases h5:s.toList = [37]
 ·rw [h5,show opP [37] a b = if b = 0 then 0 else a.tmod b from rfl]
  obtain rfl:=list_of h5
  clear h1 h2 h3 h4 h5 a1 a2 b1 b2
  by_cases hb:b = 0
  ·subst hb
   go_enter Tryz.func206,Tryz.ntmps206
   go_wp2
   go_ret
   exact ⟨rfl,0,rfl⟩
  ·rw [if_neg hb]
   have hb':(b == 0) = false:=by simpa using hb
   go_enter Tryz.func206,Tryz.ntmps206
   go_wp2
   go_ret
   exact ⟨rfl,0,rfl⟩
 by_cases h6:s.toList = [60]
 ·rw [h6,show opP [60] a b = if a < b then 1 else 0 from rfl]
  obtain rfl:=list_of h6
  clear h1 h2 h3 h4 h5 h6 a1 a2 b1 b2
  go_enter Tryz.func206,Tryz.ntmps206
  go_wp2_with (go_at_call 211;refine (truth_any _ _).mono ?_;rintro e w' ⟨rfl,rfl⟩)
  all_goals
   go_ret
   exact ⟨rfl,0,rfl⟩
 by_cases h7:s.toList = [61,61]
 ·rw [h7,show opP [61,61] a b = if a = b then 1 else 0 from rfl]
  obtain rfl:=list_of h7
  clear h1 h2 h3 h4 h5 h6 h7 a1 a2 b1 b2
  go_enter Tryz.func206,Tryz.ntmps206
  go_wp2_with (go_at_call 211;refine (truth_any _ _).mono ?_;rintro e w' ⟨rfl,rfl⟩)
  all_goals
   go_ret
   exact ⟨rfl,0,rfl⟩
 ·rw [show opP s.toList a b = 0 by unfold opP;rw [if_neg h1,if_neg h2,if_neg h3,if_neg h4,if_neg h5,if_neg h6,if_neg h7]]
  have e1:(s.toList == [43]) = false:=(by simpa using h1);have e2:(s.toList == [45]) = false:=(by simpa using h2);have e3:(s.toList == [42]) = false:=(by simpa using h3);have e4:(s.toList == [47]) = false:=(by simpa using h4);have e5:(s.toList == [37]) = false:=(by simpa using h5);have e6:(s.toList == [60]) = false:=(by simpa using h6);have e7:(s.toList == [61,61]) = false:=(by simpa using h7)
  clear h1 h2 h3 h4 h5 h6 h7 a1 a2 b1 b2
  go_enter Tryz.func206,Tryz.ntmps206
  go_wp2
  go_ret
  exact ⟨rfl,0,rfl⟩
theorem pair_int {a b c d:Int} (h:a = b) (h':c = d):Ending.returned (.tuple #[.int .i64 a,.int .i64 c]) = .returned (.tuple #[.int .i64 b,.int .i64 d]):=by rw [h,h']
end Go.Proofs.YtpjficjlfibibaaGreatDoor.body
namespace Go.Proofs.YtpjficjlfibibaaGreatDoor.syn
open Go.RowKit
set_option linter.unusedVariables false
set_option linter.unusedSimpArgs false
def opE (nm:ByteArray) (a b c:Int):Int:=if nm.toList = [63] then (if a ≠ 0 then b else c) else body.opP nm.toList a b
def sgE (T:ByteArray → Int) (k:Int) (nm:ByteArray) (n:Int):Int:=if k = 11 then T nm else if k = 12 then n else 0
def evA (T:ByteArray → Int):PL → Nat → Int
 | .nil,_ => 0
 | .cons k nm n _ args _ _,0 => if k = 13 then opE nm (evA T args 0) (evA T args 1) (evA T args 2) else sgE T k nm n
 | .cons _ _ _ _ _ _ tl,i + 1 => evA T tl i
def evE (T:ByteArray → Int) (e:PE):Int:=if e.k = 13 then opE e.nm (evA T e.args 0) (evA T e.args 1) (evA T e.args 2) else sgE T e.k e.nm e.n
theorem evA_at (T:ByteArray → Int):∀ (l:PL) (i:Nat) (e:PE),l.at i = some e → evA T l i = evE T e
 | .cons k nm n d args a tl,0,e,h => by injection h with h;subst h;rfl
 | .cons _ _ _ _ _ _ tl,i + 1,e,h => evA_at T tl i e h
theorem evA_none (T:ByteArray → Int):∀ (l:PL) (i:Nat),l.len ≤ i → evA T l i = 0
 | .nil,_,_ => rfl
 | .cons _ _ _ _ _ _ tl,0,h => by simp [PL.len] at h
 | .cons _ _ _ _ _ _ tl,i + 1,h => evA_none T tl i (by simp only [PL.len] at h;omega)
def At (w:World) (x:Addr) (e:PE):Prop:=∃ b o ad cap,x = ⟨b,o,none⟩ ∧ (∃ cs t,w.heap[b]? = some (.cells cs t (0,0))) ∧ w.cell? ⟨b,o,none⟩ = some (.int .i64 e.k) ∧ w.cell? ⟨b,o + 1,none⟩ = some (.string e.nm) ∧ w.cell? ⟨b,o + 2,none⟩ = some (.int .i64 e.n) ∧
 w.cell? ⟨b,o + 3,none⟩ = some (.int .i64 e.d) ∧ w.cell? ⟨b,o + 5,none⟩ = some (.int .i64 e.a) ∧ w.cell? ⟨b,o + 4,none⟩ = some (.slice ad e.args.len cap) ∧ e.args.len ≤ cap ∧ SlA w (fun _ => True) e.args ad
theorem sla_at {w:World}:∀ (l:PL) (b o i:Nat) (e:PE),(∃ cs t,w.heap[b]? = some (.cells cs t (0,0))) → Cells w (fun _ => True) b l o → l.at i = some e → At w ⟨b,o + i * 6,none⟩ e
 | .cons k nm n d args a tl,b,o,0,e,hb,h,he => by
  injection he with he
  subst he
  obtain ⟨h0,h1,h2,h3,h5,⟨ad,cap,h4,hcap,hd⟩,ht⟩:=h
  refine ⟨b,o,ad,cap,by simp,hb,h0,h1,h2,h3,h5,h4,hcap,?_⟩
  rcases hd with hd | ⟨b',o',e',hb',hd⟩
  ·exact .inl hd
  ·exact .inr ⟨b',o',e',hb',hd⟩
 | .cons k nm n d args a tl,b,o,i + 1,e,hb,h,he => by
  have:=sla_at tl b (o + 6) i e hb h.2.2.2.2.2.2 he
  rw [show o + (i + 1) * 6 = o + 6 + i * 6 by omega]
  exact this
theorem At.arg {w:World} {x:Addr} {e:PE} (h:At w x e) {i:Nat} (hi:i < e.args.len):∃ b o cap,w.cell? ⟨x.block,x.off + 4,none⟩ = some (.slice (some ⟨b,o,none⟩) e.args.len cap) ∧ ∃ e',e.args.at i = some e' ∧ At w ⟨b,o + i * 6,none⟩ e':=by
 obtain ⟨bx,ox,ad,cap,rfl,hb,h0,h1,h2,h3,h5,h4,hcap,hs⟩:=h
 obtain ⟨e',he',_⟩:=PL.at_some e.args i hi
 rcases hs with hs | ⟨b,o,rfl,⟨_,cs,hcs⟩,hc⟩
 ·rw [hs] at hi;exact absurd hi (Nat.not_lt_zero _)
 ·exact ⟨b,o,cap,h4,e',he',sla_at _ _ _ _ _ ⟨cs,_,hcs⟩ hc he'⟩
theorem cells_one {w:World}:∀ (l l':PL) (b o:Nat),l.len = l'.len → Cells w (fun _ => True) b l o → Cells w (fun _ => True) b l' o → l = l':=by
 intro l
 induction l with
 | nil =>
  intro l' b o hl _ _
  exact (len0 hl.symm).symm
 | cons k nm n d args a tl ih1 ih2 =>
  intro l' b o hl h h'
  cases l' with
  | nil => simp [PL.len] at hl
  | cons k' nm' n' d' args' a' tl' =>
   obtain ⟨h0,h1,h2,h3,h5,⟨ad,cap,h4,hcap,hd⟩,ht⟩:=h
   obtain ⟨g0,g1,g2,g3,g5,⟨ad',cap',g4,gcap,gd⟩,gt⟩:=h'
   have e0:=h0.symm.trans g0
   have e1:=h1.symm.trans g1
   have e2:=h2.symm.trans g2
   have e3:=h3.symm.trans g3
   have e4:=h4.symm.trans g4
   have e5:=h5.symm.trans g5
   simp only [Option.some.injEq,Value.int.injEq,true_and,Value.string.injEq,Value.slice.injEq] at e0 e1 e2 e3 e4 e5
   obtain ⟨e4,e6,e7⟩:=e4
   subst e0;subst e1;subst e2;subst e3;subst e5;subst e4
   have ha:args = args':=by
    rcases hd with hd | ⟨b1,o1,x1,_,hd⟩
    ·rw [hd] at e6 ⊢
     exact (len0 e6.symm).symm
    ·rcases gd with gd | ⟨b2,o2,x2,_,gd⟩
     ·rw [gd] at e6 ⊢
      exact len0 e6
     ·rw [x1] at x2
      injection x2 with x2
      injection x2 with x2 x3
      subst x2;subst x3
      exact ih1 args' _ _ e6 hd gd
   subst ha
   rw [ih2 tl' b (o + 6) (by simpa [PL.len] using hl) ht gt]
theorem At.one {w:World} {x:Addr} {e e':PE} (h:At w x e) (h':At w x e'):e = e':=by
 obtain ⟨b,o,ad,cap,rfl,hb,h0,h1,h2,h3,h5,h4,hcap,hd⟩:=h
 obtain ⟨b',o',ad',cap',hx,gb,g0,g1,g2,g3,g5,g4,gcap,gd⟩:=h'
 injection hx with x1 x2
 subst x1;subst x2
 obtain ⟨k,nm,n,d,args,a⟩:=e
 obtain ⟨k',nm',n',d',args',a'⟩:=e'
 have e0:=h0.symm.trans g0
 have e1:=h1.symm.trans g1
 have e2:=h2.symm.trans g2
 have e3:=h3.symm.trans g3
 have e4:=h4.symm.trans g4
 have e5:=h5.symm.trans g5
 simp only [Option.some.injEq,Value.int.injEq,true_and,Value.string.injEq,Value.slice.injEq] at e0 e1 e2 e3 e4 e5
 obtain ⟨e4,e6,e7⟩:=e4
 subst e0;subst e1;subst e2;subst e3;subst e5;subst e4
 have ha:args = args':=by
  simp only at hd gd e6
  rcases hd with hd | ⟨b1,o1,x1,_,hd⟩
  ·rw [hd] at e6 ⊢
   exact (len0 e6.symm).symm
  ·rcases gd with gd | ⟨b2,o2,x2,_,gd⟩
   ·rw [gd] at e6 ⊢
    exact len0 e6
   ·rw [x1] at x2
    injection x2 with x2
    injection x2 with x2 x3
    subst x2;subst x3
    exact cells_one _ _ _ _ e6 hd gd
 subst ha
 rfl
def K0 (w:World) (a:Addr):Prop:=∃ b o cs t,a = ⟨b,o,none⟩ ∧ w.heap[b]? = some (.cells cs t (0,0))
theorem K0.keep {w w':World} {a:Addr} (h:K0 w a) (hk:∀ (b:Nat) (cs:Array Value) (t:TypeId),w.heap[b]? = some (Obj.cells cs t (0,0)) → ∃ cs',w'.heap[b]? = some (Obj.cells cs' t (0,0))):K0 w' a:=by
 obtain ⟨b,o,cs,t,rfl,h1⟩:=h
 obtain ⟨cs',h2⟩:=hk b cs t h1
 exact ⟨b,o,cs',t,rfl,h2⟩
theorem same_k0 {P:Program} {w:World} {x y:Addr} (hx:K0 w x) (hy:K0 w y):(sameAddr x y).run P w = .ok (decide (x = y)) w:=by
 obtain ⟨b1,o1,c1,t1,rfl,h1⟩:=hx
 obtain ⟨b2,o2,c2,t2,rfl,h2⟩:=hy
 by_cases hb:b1 = b2
 ·subst hb
  have e:(sameAddr ⟨b1,o1,none⟩ ⟨b1,o2,none⟩).run P w = .ok ((⟨b1,o1,none⟩:Addr) == ⟨b1,o2,none⟩) w:=by simp [sameAddr]
  rw [e]
  rfl
 ·have hb':(b1 == b2) = false:=by simpa using hb
  have s1:w.shape? b1 = some (t1,c1.size):=by simp [World.shape?,h1]
  have s2:w.shape? b2 = some (t2,c2.size):=by simp [World.shape?,h2]
  have z1:∀ o,w.frozen? ⟨b1,o,none⟩ = false:=fun o => by simp [World.frozen?,h1]
  have z2:∀ o,w.frozen? ⟨b2,o,none⟩ = false:=fun o => by simp [World.frozen?,h2]
  have hd:decide ((⟨b1,o1,none⟩:Addr) = ⟨b2,o2,none⟩) = false:=decide_eq_false (fun e => hb (by injection e))
  rw [hd]
  simp only [sameAddr,hb',Bool.false_eq_true,if_false,Sem.run_bind,run_frozen,Result.andThen_ok,z1,z2,Bool.false_and,noView,viewAt,run_shape,s1,s2,Option.isSome,if_true,Sem.run_pure,mayBeOne,stringish,Bool.or_self]
theorem eq_k0 {T K E X:TypeId} {z:Value} (M:PtrMap T K E X z) {w:World} {x y:Addr} (hx:K0 w x) (hy:K0 w y):(Op.equal K (.pointer (some x)) (.pointer (some y))).run Tryz.prog w = .ok (decide (x = y)) w:=by
 obtain ⟨m,hz⟩:=M.size w
 obtain ⟨d,hd⟩:∃ d,Op.maxDepth = d + 1:=⟨9999,rfl⟩
 have h:=same_k0 (P:=Tryz.prog) hx hy
 unfold Op.equal
 rw [hd]
 simp [Op.equalIn,run_underlying M.key,hz,h]
def findQ (k:Addr):List (Addr × Value) → Nat → Option (Nat × Value)
 | [],_ => none
 | p :: L,i => if k = p.1 then some (i,p.2) else findQ k L (i + 1)
def getQ (k:Addr):List (Addr × Value) → Option Value
 | [] => none
 | p :: L => if k = p.1 then some p.2 else getQ k L
def putQ (k:Addr) (v:Value):List (Addr × Value) → List (Addr × Value)
 | [] => [(k,v)]
 | p :: L => if k = p.1 then (k,v) :: L else p :: putQ k v L
theorem getQ_put (k k':Addr) (v:Value):∀ L:List (Addr × Value),getQ k' (putQ k v L) = if k' = k then some v else getQ k' L
 | [] => by simp [putQ,getQ]
 | p :: L => by
  unfold putQ
  by_cases h:k = p.1
  ·rw [if_pos h]
   unfold getQ
   by_cases h2:k' = k
   ·simp [h2]
   ·simp [h2,← h]
  ·rw [if_neg h]
   unfold getQ
   rw [getQ_put k k' v L]
   by_cases h2:k' = p.1
   ·rw [if_pos h2,if_pos h2,if_neg (fun e => h (by rw [← e];exact h2))]
   ·rw [if_neg h2,if_neg h2]
theorem putQ_keys (k:Addr) (v:Value):∀ L:List (Addr × Value),∀ p ∈ putQ k v L,p.1 = k ∨ ∃ q ∈ L,q.1 = p.1
 | [],p,h => by
  unfold putQ at h
  rw [List.mem_singleton.1 h]
  exact .inl rfl
 | q :: L,p,h => by
  unfold putQ at h
  split at h
  ·rcases List.mem_cons.1 h with rfl | h
   ·exact .inl rfl
   ·exact .inr ⟨p,by simp [h],rfl⟩
  ·rcases List.mem_cons.1 h with rfl | h
   ·exact .inr ⟨p,by simp,rfl⟩
   ·rcases putQ_keys k v L p h with h | ⟨r,hr,e⟩
    ·exact .inl h
    ·exact .inr ⟨r,by simp [hr],e⟩
theorem putQ_new {k:Addr} (v:Value):∀ {L:List (Addr × Value)},getQ k L = none → putQ k v L = L ++ [(k,v)]
 | [],_ => rfl
 | p :: L,h => by
  unfold getQ at h
  by_cases hk:k = p.1
  ·rw [if_pos hk] at h;cases h
  ·rw [if_neg hk] at h
   unfold putQ
   rw [if_neg hk,putQ_new v h]
   rfl
theorem putQ_old {k:Addr} (v:Value):∀ {L:List (Addr × Value)},getQ k L ≠ none → (putQ k v L).map (·.1) = L.map (·.1)
 | [],h => absurd rfl h
 | p :: L,h => by
  unfold getQ at h
  unfold putQ
  by_cases hk:k = p.1
  ·rw [if_pos hk];simp [hk]
  ·rw [if_neg hk] at h
   rw [if_neg hk,List.map_cons,putQ_old v h]
   rfl
theorem findQ_get (k:Addr):∀ (L:List (Addr × Value)) (i:Nat),(findQ k L i).map (·.2) = getQ k L:=by
 intro L
 induction L with
 | nil => intro i;rfl
 | cons p L ih =>
  intro i
  unfold findQ getQ
  by_cases h:k = p.1
  ·rw [if_pos h,if_pos h];rfl
  ·rw [if_neg h,if_neg h];exact ih (i + 1)
theorem findQ_none (k:Addr) (v:Value):∀ (L:List (Addr × Value)) (j:Nat),findQ k L j = none → putQ k v L = L ++ [(k,v)]:=by
 intro L
 induction L with
 | nil => intro j _;rfl
 | cons p L ih =>
  intro j h
  unfold findQ at h
  by_cases hk:k = p.1
  ·rw [if_pos hk] at h;cases h
  ·rw [if_neg hk] at h
   unfold putQ
   rw [if_neg hk,ih (j + 1) h];rfl
theorem findQ_some (k:Addr) (v:Value):∀ (L:List (Addr × Value)) (j i:Nat) (u:Value),findQ k L j = some (i,u) → ∃ n,i = j + n ∧ ∃ x,L[n]? = some (k,x) ∧ putQ k v L = L.modify n (fun _ => (k,v)):=by
 intro L
 induction L with
 | nil => intro j i u h;cases h
 | cons p L ih =>
  intro j i u h
  unfold findQ at h
  by_cases hk:k = p.1
  ·rw [if_pos hk] at h
   obtain ⟨rfl,_⟩:j = i ∧ _:=by simpa using h
   refine ⟨0,rfl,p.2,?_,?_⟩
   ·rw [hk];rfl
   ·unfold putQ;rw [if_pos hk];rfl
  ·rw [if_neg hk] at h
   obtain ⟨n,rfl,x,h1,h2⟩:=ih (j + 1) i u h
   refine ⟨n + 1,by omega,x,by simpa using h1,?_⟩
   unfold putQ;rw [if_neg hk,h2];rfl
def MapQ (w:World) (mb:Nat) (L:List (Addr × Value)):Prop :=
 ∃ arr clock,w.heap[mb]? = some (.map arr clock) ∧ arr.toList.map (fun e => (e.key,e.val)) = L.map (fun p => (Value.pointer (some p.1),p.2))
theorem ask_q {T K E X:TypeId} {z:Value} (M:PtrMap T K E X z) {w:World} {k:Addr} (hk:K0 w k):∀ (es:List MapEntry) (L:List (Addr × Value)) (i:Nat),es.map (fun e => (e.key,e.val)) = L.map (fun p => (Value.pointer (some p.1),p.2)) → (∀ p ∈ L,K0 w p.1) →
  (Instr.findAsking K (.pointer (some k)) es i).run Tryz.prog w = .ok (findQ k L i) w:=by
 intro es
 induction es with
 | nil => intro L i h _;cases L with
  | nil => rfl
  | cons p L => simp at h
 | cons e es ih =>
  intro L i h hL
  cases L with
  | nil => simp at h
  | cons p L =>
   simp only [List.map_cons,List.cons.injEq,Prod.mk.injEq] at h
   obtain ⟨⟨h1,h2⟩,h3⟩:=h
   have he:=eq_k0 M hk (hL p (by simp))
   have hi:=ih L (i + 1) h3 (fun q hq => hL q (by simp [hq]))
   unfold findQ
   by_cases hkp:k = p.1
   ·rw [if_pos hkp]
    rw [decide_eq_true hkp] at he
    simp [Instr.findAsking,h1,he,h2]
   ·rw [if_neg hkp]
    rw [decide_eq_false hkp] at he
    simp [Instr.findAsking,h1,he,hi]
theorem key_q {T K E X:TypeId} {z:Value} (M:PtrMap T K E X z) {w:World} {k:Addr} (hk:K0 w k) (es:List MapEntry) (L:List (Addr × Value)) (h:es.map (fun e => (e.key,e.val)) = L.map (fun p => (Value.pointer (some p.1),p.2))) (hL:∀ p ∈ L,K0 w p.1) :
  (Instr.findKey K (.pointer (some k)) es).run Tryz.prog w = .ok (findQ k L 0) w:=by
 have hu:(underlying K).run Tryz.prog w = .ok (.pointer X) w:=by rw [run_underlying M.key]
 unfold Instr.findKey
 simp only [Sem.run_bind,hu,Result.andThen_ok]
 have ha:=ask_q M hk es L 0 h hL
 cases es with
 | nil => cases L with
  | nil => rfl
  | cons p L => simp at h
 | cons e es =>
  have:Instr.findNow (.pointer X) (.pointer (some k)) (e :: es) 0 = none:=by unfold Instr.findNow Instr.sameNow;rfl
  rw [this]
  exact ha
theorem map_lookQ {T K E X:TypeId} {z:Value} (M:PtrMap T K E X z) {w:World} {mb:Nat} {L:List (Addr × Value)} (h:MapQ w mb L) (hL:∀ p ∈ L,K0 w p.1) {k:Addr} (hk:K0 w k) (c:Bool) :
  (Instr.lookup T (.map (some mb)) (.pointer (some k)) c).run Tryz.prog w = .ok (if c then .tuple #[(getQ k L).getD z,.bool (getQ k L).isSome] else (getQ k L).getD z) w:=by
 obtain ⟨arr,clock,hh,he⟩:=h
 have hu:(underlying T).run Tryz.prog w = .ok (.map K E) w:=by rw [run_underlying M.map]
 have hg:(getObj mb).run Tryz.prog w = .ok (.map arr clock) w:=run_getObj_map (w:=w) mb arr clock hh
 have hc:=M.check arr.isEmpty (some k) w
 have hfin:=findQ_get k L 0
 have hfk:=key_q M hk arr.toList L he hL
 simp only [Instr.lookup,Sem.run_bind,hu,Result.andThen_ok,hg,Sem.run_pure]
 rw [hc]
 simp only [Result.andThen_ok]
 rw [hfk]
 simp only [Result.andThen_ok]
 rw [← hfin]
 cases hr:findQ k L 0 with
 | none => simp only [Sem.run_bind,M.zero,Result.andThen_ok,Sem.run_pure];cases c <;> rfl
 | some p => obtain ⟨i,v⟩:=p;simp only [Sem.run_bind,Result.andThen_ok,Sem.run_pure];cases c <;> rfl
theorem map_putQ {T K E X:TypeId} {z:Value} (M:PtrMap T K E X z) {w:World} {mb:Nat} {L:List (Addr × Value)} (h:MapQ w mb L) (hL:∀ p ∈ L,K0 w p.1) {k:Addr} (hk:K0 w k) (v:Value) :
  ∃ arr clock n,(Instr.mapUpdate T (.map (some mb)) (.pointer (some k)) v).run Tryz.prog w = .ok () (World.putM (w.drewN n) mb (.map arr clock)) ∧ MapQ (World.putM (w.drewN n) mb (.map arr clock)) mb (putQ k v L):=by
 obtain ⟨arr,clock,hh,he⟩:=h
 have hu:(underlying T).run Tryz.prog w = .ok (.map K E) w:=by rw [run_underlying M.map]
 have hg:(getObj mb).run Tryz.prog w = .ok (.map arr clock) w:=run_getObj_map (w:=w) mb arr clock hh
 have hc:=M.check false (some k) w
 have hfk:=key_q M hk arr.toList L he hL
 have hlt:=lt_of_block hh
 have hnew:∀ (m:Nat) o,(World.putM (w.drewN m) mb o).heap[mb]? = some o:=by
  intro m o
  show (w.heap.setIfInBounds mb o)[mb]? = some o
  rw [Array.getElem?_setIfInBounds_self_of_lt hlt]
 cases hr:findQ k L 0 with
 | none =>
  refine ⟨arr.push { key:=.pointer (some k),val:=v,born:=clock },clock + 1,0,?_,⟨_,_,hnew _ _,?_⟩⟩
  ·simp only [Instr.mapUpdate,Sem.run_bind,hu,Result.andThen_ok,hg]
   rw [hc]
   simp only [Result.andThen_ok]
   rw [hfk,hr]
   simp only [Result.andThen_ok]
   exact Go.MapKept.run_setObj_map (w:=w) _ hh
  ·rw [findQ_none k v L 0 hr]
   simp [he]
 | some q =>
  obtain ⟨i,u⟩:=q
  obtain ⟨n,hn,x,h1,h2⟩:=findQ_some k v L 0 i u hr
  obtain rfl:i = n:=by omega
  have hkey:((arr[i]?).map (·.key)).getD (.pointer (some k)) = .pointer (some k):=by
   have:=congrArg (fun l => l[i]?) he
   simp only [List.getElem?_map,h1,Option.map_some] at this
   cases ha:arr[i]? with
   | none => rfl
   | some e => simp [ha] at this ⊢;exact this.1
  obtain ⟨kk,m,hst,hkk⟩:=stays_any (P:=Tryz.prog) (.pointer (some k)) (.pointer (some k)) w
  obtain rfl:kk = .pointer (some k):=by rcases hkk with h | h <;> exact h
  refine ⟨arr.modify i fun e => { e with key:=.pointer (some k),val:=v },clock,m,?_,⟨_,_,hnew _ _,?_⟩⟩
  ·simp only [Instr.mapUpdate,Sem.run_bind,hu,Result.andThen_ok,hg]
   rw [hc]
   simp only [Result.andThen_ok]
   rw [hfk,hr]
   simp only [Result.andThen_ok,Sem.run_bind,hkey]
   rw [hst]
   simp only [Result.andThen_ok]
   exact Go.MapKept.run_setObj_map (w:=w.drewN m) _ hh
  ·rw [h2,Array.toList_modify]
   apply List.ext_getElem?
   intro j
   have hj:=congrArg (fun l => l[j]?) he
   simp only [List.getElem?_map,List.getElem?_modify] at hj ⊢
   by_cases hij:i = j
   ·subst hij
    rw [h1] at hj ⊢
    cases ha:arr.toList[i]? with
    | none => rw [ha] at hj;simp at hj
    | some e => simp
   ·simp only [hij,if_false]
    cases ha:arr.toList[j]? <;> cases hb:L[j]? <;> rw [ha,hb] at hj <;> simp at hj ⊢
    exact hj
theorem MapQ.keep {w w':World} {mb:Nat} {L:List (Addr × Value)} (h:MapQ w mb L) (e:w'.heap[mb]? = w.heap[mb]?):MapQ w' mb L:=by
 obtain ⟨arr,clock,h1,h2⟩:=h
 exact ⟨arr,clock,e.trans h1,h2⟩
theorem MapQ.lt {w:World} {mb:Nat} {L:List (Addr × Value)} (h:MapQ w mb L):mb < w.heap.size:=by
 obtain ⟨arr,clock,h1,h2⟩:=h
 exact lt_of_block h1
theorem MapQ.new (w:World):MapQ (w.alloc (.map #[] 0)) w.heap.size []:=⟨#[],0,heap_new w _,rfl⟩
theorem wpList_lookQ {T K E X:TypeId} {z:Value} (M:PtrMap T K E X z) (w:World) {ops:Array Oper} {rest:List Oper} {o:Oper} {a:Act} {Q:Exit → Act → World → Prop}
  (hg:o.guard = none) (m x:Operand) (c:Bool) (hop:o.op = Op.lookup T m x c) (mb:Nat) (L:List (Addr × Value)) (k:Addr)
  (hm:a.eval m = .map (some mb)) (hx:a.eval x = .pointer (some k)) (h:MapQ w mb L) (hL:∀ p ∈ L,K0 w p.1) (hk:K0 w k) (u:Value) (hu:(if c then .tuple #[(getQ k L).getD z,.bool (getQ k L).isSome] else (getQ k L).getD z) = u)
  (hK:wpList Tryz.prog ops Q rest (a.put o.dst u) w) :
  wpList Tryz.prog ops Q (o :: rest) a w:=by
 refine wpList_plain hg fun K' hK' => ?_
 have hrun:=map_lookQ M h hL hk c
 have e:(execOp a.eval o).run Tryz.prog w = .ok (.value u) w:=by
  rw [← hu]
  simp [execOp,hop,hm,hx,hrun]
 unfold Oper.wp
 rw [e]
 exact hK' _ _ hK
theorem wpList_putQ {T K E X:TypeId} {z:Value} (M:PtrMap T K E X z) (w:World) {ops:Array Oper} {rest:List Oper} {o:Oper} {a:Act} {Q:Exit → Act → World → Prop}
  (hg:o.guard = none) (m x v:Operand) (hop:o.op = Op.mapUpdate T m x v) (mb:Nat) (L:List (Addr × Value)) (k:Addr) (u:Value)
  (hm:a.eval m = .map (some mb)) (hx:a.eval x = .pointer (some k)) (hv:a.eval v = u) (h:MapQ w mb L) (hL:∀ p ∈ L,K0 w p.1) (hk:K0 w k)
  (hK:∀ w',Upon mb w w' → w'.heap.size = w.heap.size → MapQ w' mb (putQ k u L) → wpList Tryz.prog ops Q rest (a.put o.dst undef) w') :
  wpList Tryz.prog ops Q (o :: rest) a w:=by
 refine wpList_plain hg fun K' hK' => ?_
 obtain ⟨arr,clock,n,hrun,h1⟩:=map_putQ M h hL hk u
 unfold Oper.wp
 simp [execOp,hop,hm,hx,hv,hrun,Result.andThen]
 exact hK' _ _ (hK _ (upon_putM ((Upon.refl _ _).drewN n) _) (by simp [World.putM]) h1)
theorem valuesMap:PtrMap 273 277 2 95 (.int .i64 0):=⟨by kernel_rfl,by kernel_rfl,fun w => ⟨5,by kernel_rfl⟩,fun w => by kernel_rfl,fun b s w => by cases b <;> kernel_rfl⟩
end Go.Proofs.YtpjficjlfibibaaGreatDoor.syn
namespace Go.Proofs.YtpjficjlfibibaaGreatDoor.lite
open Go.RowKit
set_option linter.unusedVariables false
theorem below_setAt {B:Nat} {a w:World} (h:Below B a w) {b o:Nat} (hp:B ≤ b) (u:Value):Below B a (w.setCell ⟨b,o,none⟩ u):=h.setCell (p:=⟨b,o,none⟩) hp u
theorem below_drewN {B:Nat} {a w:World} (h:Below B a w) (n:Nat):Below B a (w.drewN n):=⟨h.os,h.tape,h.output,h.size,h.block⟩
theorem bcell {W w1:World} (hb:Below W.heap.size W w1):(∀ b o,b < W.heap.size → w1.cell? ⟨b,o,none⟩ = W.cell? ⟨b,o,none⟩) ∧ (∀ b o,b < W.heap.size → w1.frozen? ⟨b,o,none⟩ = W.frozen? ⟨b,o,none⟩) :=
 ⟨fun b o h => hb.cell (p:=⟨b,o,none⟩) h,fun b o h => hb.frozen (p:=⟨b,o,none⟩) h⟩
theorem heap_new (w:World) (o:Obj):(w.alloc o).heap[w.heap.size]? = some o:=by
 show (w.heap.push o)[w.heap.size]? = _
 simp
end Go.Proofs.YtpjficjlfibibaaGreatDoor.lite
