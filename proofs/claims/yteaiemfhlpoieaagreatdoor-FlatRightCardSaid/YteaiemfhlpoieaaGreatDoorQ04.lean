/-
  Parts of the proof: Gath1.
-/
import Derived.Maps.AppendAt
import Derived.Deep.AppendLies
import Derived.Laws.OwnMore
import Derived.Test.YteaiemfhlpoieaaGreatDoorQ03
import Derived.Test.YteaiemfhlpoieaaGreatDoorQ01
import Derived.Test.YteaiemfhlpoieaaGreatDoorQ02
namespace Go.Proofs.YteaiemfhlpoieaaGreatDoor.syn
open Go.RowKit
set_option linter.unusedVariables false
set_option linter.unusedSimpArgs false
def T3:Nat → Nat
  | 0 => 3
  | 1 => 4
  | 2 => 5
  | p + 3 => 2 * T3 p
theorem T3_succ:∀ p,T3 p + 1 ≤ T3 (p + 1)
  | 0 => by decide
  | 1 => by decide
  | 2 => by decide
  | p + 3 => by have:=T3_succ p;show 2 * T3 p + 1 ≤ 2 * T3 (p + 1);omega
theorem T3_mono {p q:Nat} (h:p ≤ q):T3 p ≤ T3 q:=by
  induction h with
  | refl => exact Nat.le_refl _
  | step _ ih => exact Nat.le_trans ih (Nat.le_of_succ_le (T3_succ _))
theorem T3_top {p:Nat} (h:p ≤ 101):T3 p ≤ 60000000000:=Nat.le_trans (T3_mono h) (by decide)
def PL.at:PL → Nat → Option PE
  | .nil,_ => none
  | .cons k nm n d args a _,0 => some ⟨k,nm,n,d,args,a⟩
  | .cons _ _ _ _ _ _ tl,i + 1 => tl.at i
def PL.szFrom:PL → Nat → Nat
  | .nil,_ => 0
  | .cons _ _ _ _ args _ tl,0 => args.sz + 1 + tl.sz
  | .cons _ _ _ _ _ _ tl,i + 1 => tl.szFrom i
theorem PL.szFrom0:∀ l:PL,l.szFrom 0 = l.sz
  | .nil => rfl
  | .cons _ _ _ _ _ _ _ => rfl
theorem PL.at_some:∀ (l:PL) (i:Nat),i < l.len → ∃ e,l.at i = some e ∧ l.szFrom i = e.sz + l.szFrom (i + 1)
  | .nil,i,h => absurd h (Nat.not_lt_zero _)
  | .cons k nm n d args a tl,0,_ => ⟨⟨k,nm,n,d,args,a⟩,rfl,by show args.sz + 1 + tl.sz = (args.sz + 1) + tl.szFrom 0;rw [PL.szFrom0]⟩
  | .cons _ _ _ _ _ _ tl,i + 1,h => tl.at_some i (Nat.lt_of_succ_lt_succ h)
def Ar2:PL → Prop
  | .nil => True
  | .cons _ _ _ _ args _ tl => (args = .nil ∨ 2 ≤ args.len) ∧ Ar2 args ∧ Ar2 tl
def Ar2E (e:PE):Prop:=(e.args = .nil ∨ 2 ≤ e.args.len) ∧ Ar2 e.args
theorem Ar2.at:∀ (l:PL) (i:Nat) (e:PE),Ar2 l → l.at i = some e → Ar2E e
  | .cons k nm n d args a tl,0,e,h,he => by injection he with he;subst he;exact ⟨h.1,h.2.1⟩
  | .cons _ _ _ _ _ _ tl,i + 1,e,h,he => Ar2.at tl i e h.2.2 he
theorem len_le_sz:∀ l:PL,l.len ≤ l.sz
  | .nil => Nat.le_refl _
  | .cons _ _ _ _ args _ tl => by have:=len_le_sz tl;simp only [PL.len,PL.sz];omega
theorem len0 {l:PL} (h:l.len = 0):l = .nil:=by cases l with | nil => rfl | cons _ _ _ _ _ _ _ => simp [PL.len] at h
theorem Ar2E.three {e:PE} (h:Ar2E e) (hn:e.args.len ≠ 0):3 ≤ e.sz:=by
  rcases h.1 with h | h
  · rw [h] at hn;exact absurd rfl hn
  · have:=len_le_sz e.args;unfold PE.sz;omega
theorem bd_two {k n d:Int} {nm:ByteArray} {len:Nat} (h:bdE k n d nm len = true):len = 0 ∨ 2 ≤ len:=by
  unfold bdE at h
  split at h
  · cases h
  · split at h
    · simp at h;omega
    · split at h
      · simp at h;omega
      · split at h
        · cases h
        · split at h
          · simp at h;omega
          · split at h
            · simp at h;omega
            · cases h
theorem bdR_ar2:∀ l:PL,bdR l = true → Ar2 l
  | .nil,_ => trivial
  | .cons k nm n d args a tl,h => by
    rw [bdR,Bool.and_eq_true,Bool.and_eq_true] at h
    refine ⟨?_,bdR_ar2 args h.1.1,bdR_ar2 tl h.2⟩
    rcases bd_two h.1.2 with h | h
    · exact .inl (len0 h)
    · exact .inr h
theorem bodyB_ar2 {e:PE} (h:bodyB e = true):Ar2E e:=by
  unfold bodyB at h
  rw [Bool.and_eq_true] at h
  refine ⟨?_,bdR_ar2 _ h.1⟩
  rcases bd_two h.2 with h | h
  · exact .inl (len0 h)
  · exact .inr h
structure ExpAt (W:World) (b o:Nat) (e:PE):Prop where
  lt:b < W.heap.size
  fz:W.frozen? ⟨b,o,none⟩ = false
  c0:W.cell? ⟨b,o,none⟩ = some (.int .i64 e.k)
  c1:W.cell? ⟨b,o + 1,none⟩ = some (.string e.nm)
  c2:W.cell? ⟨b,o + 2,none⟩ = some (.int .i64 e.n)
  c3:W.cell? ⟨b,o + 3,none⟩ = some (.int .i64 e.d)
  c5:W.cell? ⟨b,o + 5,none⟩ = some (.int .i64 e.a)
  c4:∃ ad cap,W.cell? ⟨b,o + 4,none⟩ = some (.slice ad e.args.len cap) ∧ (e.args = .nil ∨ ∃ b' o',ad = some ⟨b',o',none⟩ ∧ b' < W.heap.size ∧ AC W e.args b' o' ∧ NF W e.args b' o')
  len:e.args.len ≤ 9223372036854775807
theorem ExpAt.ptr {W w:World} {b o:Nat} {e:PE} (h:ExpAt W b o e) (hb:Below W.heap.size W w):PtrOk w (.pointer (some ⟨b,o,none⟩)):=by
  have hc:=h.c0
  unfold World.cell? at hc
  cases hh:W.heap[b]? with
  | none => simp [hh] at hc
  | some ob =>
    cases ob with
    | cells cs t fr => exact ⟨b,o,cs,t,fr,rfl,(hb.block b h.lt).trans hh,(hb.frozen (p:=⟨b,o,none⟩) h.lt).trans h.fz⟩
    | _ => simp [hh] at hc
theorem ExpAt.child:∀ (l:PL) {W:World} {b o:Nat},b < W.heap.size → AC W l b o → NF W l b o → ∀ i e,l.at i = some e → ExpAt W b (o + i * 6) e
  | .cons k nm n d args a tl,W,b,o,hlt,hac,hnf,0,e,he => by
    injection he with he
    subst he
    obtain ⟨h0,h1,h2,h3,h5,hn,⟨ad,cap,h4,hcap,hm,hd⟩,ht⟩:=hac
    rw [Nat.zero_mul,Nat.add_zero]
    refine ⟨hlt,hnf.1,h0,h1,h2,h3,h5,⟨ad,cap,h4,?_⟩,Nat.le_trans hcap hm⟩
    rcases hd with hd | ⟨b',o',rfl,hb',hd⟩
    · exact .inl hd
    · exact .inr ⟨b',o',rfl,hb',hd,hnf.2.1 b' o' cap h4⟩
  | .cons _ _ _ _ _ _ tl,W,b,o,hlt,hac,hnf,i + 1,e,he => by
    have:=ExpAt.child tl hlt hac.2.2.2.2.2.2.2 hnf.2.2 i e he
    rw [show o + (i + 1) * 6 = o + 6 + i * 6 by omega]
    exact this
structure SE where
  b:Nat
  o:Nat
  next:Nat
  fr:Nat
  e:PE
def SE.v (s:SE):List Value:=[.pointer (some ⟨s.b,s.o,none⟩),.int .i64 s.next,.int .i64 s.fr]
def ysOf (stk:List SE):List Value:=stk.flatMap SE.v
def remS:List SE → Nat
  | [] => 0
  | s :: l => s.e.args.szFrom s.next + remS l
theorem remS_append (a b:List SE):remS (a ++ b) = remS a + remS b:=by
  induction a with
  | nil => simp [remS]
  | cons s l ih => simp only [List.cons_append,remS,ih];omega
theorem ysOf_append (a b:List SE):ysOf (a ++ b) = ysOf a ++ ysOf b:=by simp [ysOf]
theorem ysOf_len:∀ l:List SE,(ysOf l).length = l.length * 3:=by
  intro l
  induction l with
  | nil => rfl
  | cons s l ih => show (s.v ++ ysOf l).length = _;rw [List.length_append,ih,List.length_cons];show 3 + _ = _;omega
def PcV (nn:Nat) (v:Value):Prop:=∃ f t:Nat,v = .agg #[.int .i64 f,.int .i64 t] ∧ f ≤ t ∧ t ≤ nn
theorem PcV.mono {n m:Nat} (h:n ≤ m) {v:Value} (hv:PcV n v):PcV m v:=by obtain ⟨f,t,rfl,h1,h2⟩:=hv;exact ⟨f,t,rfl,h1,by omega⟩
def NmR (xs:List Value) (nn:Nat):Prop:=(∀ u ∈ xs,u.oneCell' = true) ∧ ∀ j,j < nn → ∃ (k:Int) (nm:ByteArray) (n d a:Int),xs[j * 6]? = some (.int .i64 k) ∧ xs[j * 6 + 1]? = some (.string nm) ∧ xs[j * 6 + 2]? = some (.int .i64 n) ∧ xs[j * 6 + 3]? = some (.int .i64 d) ∧
  xs[j * 6 + 4]? = some (.slice none 0 0) ∧ xs[j * 6 + 5]? = some (.int .i64 a)
def KeyG (W1:World) (v:Value):Prop:=∃ b o e,v = .pointer (some ⟨b,o,none⟩) ∧ ExpAt W1 b o e
theorem KeyG.ptr {W1 w:World} (hb:Below W1.heap.size W1 w) (v:Value) (h:KeyG W1 v):PtrOk w v:=by obtain ⟨b,o,e,rfl,h⟩:=h;exact h.ptr hb
def gbObj (vn vo:Value) (mb:Nat):Obj:=.cells #[vn,vo,.map (some mb)] 163 (0,0)
structure GW (W1:World) (gb mb nn:Nat) (stk:List SE) (w:World):Prop where
  low:Below W1.heap.size W1 w
  hgb:W1.heap.size ≤ gb
  hmb:W1.heap.size ≤ mb
  sta:∃ vn vo xs,w.heap[gb]? = some (gbObj vn vo mb) ∧ w.ownsRow W1.heap.size 46 6 vn nn xs ∧ NmR xs nn ∧ w.ownsRow W1.heap.size 178 3 vo stk.length (ysOf stk)
  map:MapP w mb (KeyG W1) (PcV nn)
  stk:∀ s ∈ stk,ExpAt W1 s.b s.o s.e ∧ s.next ≤ s.e.args.len ∧ s.fr ≤ nn ∧ Ar2E s.e
theorem NmR.nil:NmR [] 0:=⟨fun u h => (by cases h),fun j h => absurd h (Nat.not_lt_zero _)⟩
theorem NmR.snoc {xs ys:List Value} {n m:Nat} (hx:xs.length = n * 6) (h:NmR xs n) (k:NmR ys m):NmR (xs ++ ys) (n + m):=by
  refine ⟨fun u hu => ?_,fun j hj => ?_⟩
  · rcases List.mem_append.1 hu with hu | hu
    · exact h.1 u hu
    · exact k.1 u hu
  · by_cases hjn:j < n
    · obtain ⟨k,nm,a,b,c,h0,h1,h2,h3,h4,h5⟩:=h.2 j hjn
      refine ⟨k,nm,a,b,c,?_,?_,?_,?_,?_,?_⟩
      all_goals (rw [List.getElem?_append_left oq];assumption)
    · obtain ⟨k,nm,a,b,c,h0,h1,h2,h3,h4,h5⟩:=k.2 (j - n) oq
      have e:∀ i,i < 6 → (xs ++ ys)[j * 6 + i]? = ys[(j - n) * 6 + i]?:=fun i hi => by rw [List.getElem?_append_right oq];congr 1;omega
      exact ⟨k,nm,a,b,c,(e 0 oq).trans h0,(e 1 oq).trans h1,(e 2 oq).trans h2,(e 3 oq).trans h3,(e 4 oq).trans h4,(e 5 oq).trans h5⟩
theorem NmR.part {xs:List Value} {n f t:Nat} (hx:xs.length = n * 6) (h:NmR xs n) (hft:f ≤ t) (htn:t ≤ n):NmR ((xs.drop (f * 6)).take ((t - f) * 6)) (t - f):=by
  refine ⟨fun u hu => h.1 u (List.mem_of_mem_drop (List.mem_of_mem_take hu)),fun j hj => ?_⟩
  obtain ⟨k,nm,a,b,c,h0,h1,h2,h3,h4,h5⟩:=h.2 (f + j) oq
  have e:∀ i,i < 6 → ((xs.drop (f * 6)).take ((t - f) * 6))[j * 6 + i]? = xs[(f + j) * 6 + i]?:=fun i hi => by rw [List.getElem?_take_of_lt oq,List.getElem?_drop];congr 1;omega
  exact ⟨k,nm,a,b,c,(e 0 oq).trans h0,(e 1 oq).trans h1,(e 2 oq).trans h2,(e 3 oq).trans h3,(e 4 oq).trans h4,(e 5 oq).trans h5⟩
structure Chg (S:Nat → Prop) (w w':World):Prop where
  os:w'.os = w.os
  tape:w'.tape = w.tape
  output:w'.output = w.output
  size:w.heap.size ≤ w'.heap.size
  block:∀ k,k < w.heap.size → ¬ S k → w'.heap[k]? = w.heap[k]?
theorem ne_own {w:World} {base:Nat} {e:TypeId} {size:Nat} {v:Value} {n:Nat} {xs:List Value} (h:w.ownsRow base e size v n xs) {b:Nat} (hb:∀ cur,w.heap[b]? ≠ some (.cells cur e (0,0))):v.ownBlock ≠ some b:=by
  intro he
  rcases h.2 with ⟨h1,_⟩ | ⟨g,cap,cur,h1,_,hg,_⟩
  · rw [h1] at he;cases he
  · rw [h1] at he
    injection he with he
    have he:g = b:=he
    subst he
    exact hb cur hg
theorem ownsRow_to {w w':World} {base:Nat} {e:TypeId} {size:Nat} {v:Value} {n:Nat} {xs:List Value} (h:w.ownsRow base e size v n xs) (hb:∀ k,v.ownBlock = some k → w'.heap[k]? = w.heap[k]?):w'.ownsRow base e size v n xs:=by
  refine ⟨h.1,?_⟩
  rcases h.2 with h1 | ⟨g,cap,cur,h1,h2,hg,h3⟩
  · exact .inl h1
  · exact .inr ⟨g,cap,cur,h1,h2,(hb g (by rw [h1];rfl)).trans hg,h3⟩
theorem GW.names {W1 w w':World} {gb mb nn nn':Nat} {stk:List SE} (h:GW W1 gb mb nn stk w) {vn vo v':Value} {xs xs':List Value} (hgb:w.heap[gb]? = some (gbObj vn vo mb)) (hon:w.ownsRow W1.heap.size 46 6 vn nn xs)
    (hc:Chg (fun k => k = gb ∨ vn.ownBlock = some k) w w') (hg':w'.heap[gb]? = some (gbObj v' vo mb)) (hon':w'.ownsRow W1.heap.size 46 6 v' nn' xs') (hnm:NmR xs' nn') (hle:nn ≤ nn'):GW W1 gb mb nn' stk w':=by
  obtain ⟨vn2,vo2,xs2,hgb2,hon2,hnm2,hoo⟩:=h.sta
  have e:=hgb.symm.trans hgb2
  simp only [gbObj,Option.some.injEq,Obj.cells.injEq,Array.mk.injEq,List.cons.injEq,and_true,true_and] at e
  obtain ⟨rfl,rfl⟩:=e
  have hml:=h.map.lt
  have hlow:=h.low.size
  have hmo:¬ (mb = gb ∨ vn.ownBlock = some mb):=by
    obtain ⟨arr,clock,hm,_⟩:=h.map
    rintro (e | e)
    · rw [e,hgb] at hm;cases hm
    · exact ne_own hon (b:=mb) (fun cur e2 => by rw [hm] at e2;cases e2) e
  refine ⟨⟨hc.os.trans h.low.os,hc.tape.trans h.low.tape,hc.output.trans h.low.output,Nat.le_trans h.low.size hc.size,fun k hk => ?_⟩,h.hgb,h.hmb,⟨v',vo,xs',hg',hon',hnm,?_⟩,h.map.keep (hc.block mb hml hmo) (fun v hv => hv.mono hle),fun s hs => ?_⟩
  · have hkb:¬ (k = gb ∨ vn.ownBlock = some k):=by
      have:=h.hgb
      rintro (e | e)
      · omega
      · have:=(hon.lt k e).1;omega
    exact (hc.block k oq hkb).trans (h.low.block k hk)
  · refine ownsRow_to hoo fun k hk => hc.block k (hoo.lt k hk).2 ?_
    rintro (e | e)
    · rw [e] at hk
      exact ne_own hoo (b:=gb) (fun cur e2 => by rw [hgb] at e2;injection e2 with e2;injection e2 with _ e2 _;exact absurd e2 (by decide)) hk
    · rcases hon.2 with ⟨h1,_⟩ | ⟨g,cap,cur,h1,_,hg,_⟩
      · rw [h1] at e;cases e
      · rw [h1] at e
        injection e with e
        have e:g = k:=e
        subst e
        exact ne_own hoo (b:=g) (fun cur2 e2 => by rw [hg] at e2;injection e2 with e2;injection e2 with _ e2 _;exact absurd e2 (by decide)) hk
  · obtain ⟨h1,h2,h3,h4⟩:=h.stk s hs
    exact ⟨h1,h2,Nat.le_trans h3 hle,h4⟩
end Go.Proofs.YteaiemfhlpoieaaGreatDoor.syn
