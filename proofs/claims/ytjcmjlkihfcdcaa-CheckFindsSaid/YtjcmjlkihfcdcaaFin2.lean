/-
  CheckFinds: what its loop holds; clocks appended; append at a step of a region that draws.
-/
import Derived.Maps.AppendAt
import Derived.Deep.Upon
import Derived.Lib.AppendZeros
import Derived.Deep.AppendLies
import Derived.Test.YtjcmjlkihfcdcaaRef6k4
import Derived.Test.YtjcmjlkihfcdcaaFin1
import Derived.Test.YtjcmjlkihfcdcaaRef4R
import Derived.Test.YtjcmjlkihfcdcaaAwk
namespace Go.Proofs.Ytjcmjlkihfcdcaa.fin
open Go.RowKit syn rclk
set_option linter.unusedVariables false
set_option linter.unusedSimpArgs false

theorem run_append_gen {P : Program} (w : World) (base : Nat) (t ty e : TypeId) (i : TypeInfo) (z : Value) (size bytes : Nat) (ht : P.underlying t = some (.slice e)) (hi : P.info? e = some i) (hz : i.zero = some z)
    (hsize : i.size = size) (hby : i.bytes = bytes) (hzs : z.cells.size = size) (hsz : 0 < size)
    (v : Value) (n : Nat) (xs : List Value) (hown : w.ownsRow base e size v n xs)
    (ad : Option Addr) (m c : Nat) (news : List Value) (hl : news.length = m * size) (hnews : ∀ j u, news[j]? = some u → ∃ x : Addr, ad = some x ∧ w.cell? (x.add j) = some u) (h1 : ∀ u ∈ news, u.oneCell' = true)
    (h63 : n + m ≤ maxLen) (hbytes : (n + m) * bytes ≤ 140737488355328) (hbase : base ≤ w.heap.size) :
    ∃ v' w', (Builtin.append_ #[t, t] ty #[v, .slice ad m c]).run P w = .ok v' w' ∧ w'.ownsRow base e size v' (n + m) (xs ++ news) ∧ w.grownBy w' v.ownBlock ∧ (v'.ownBlock = v.ownBlock ∨ v'.ownBlock = some w.heap.size) := by
  cases ad with
  | some a =>
    obtain ⟨v', w', hr, h2, h3, _, h5⟩ := run_append_own_at (P := P) w base t ty e i z size bytes ht hi hz hsize hby hzs hsz v n xs hown a m c news hl (fun j u h => by obtain ⟨x, hx, hc⟩ := hnews j u h; cases hx; exact hc) h1 h63 hbytes hbase
    exact ⟨v', w', hr, h2, h3, h5⟩
  | none =>
    have hm : m = 0 := by
      cases news with
      | nil =>
        have h : m * size = 0 := hl.symm
        rcases Nat.mul_eq_zero.1 h with h | h
        · exact h
        · omega
      | cons u us => obtain ⟨x, hx, _⟩ := hnews 0 u rfl; cases hx
    subst hm
    obtain rfl : news = [] := by simpa using hl
    have key : ∀ (b : Option Addr) (k cp : Nat), k ≤ cp → (Builtin.append_ #[t, t] ty #[.slice b k cp, .slice none 0 c]).run P w = .ok (.slice b k cp) w := by
      intro b k cp hle
      refine run_append_nothing w t t ty e i ht hi b k cp hle _ ⟨.inl ⟨_, ht⟩, ?_, ?_, ?_, by simp, by simp⟩
      · intro w'; simp [Builtin.lenOf]
      · simp [Builtin.firstCells]
      · simp [Builtin.firstCells]
    have hown' := hown
    rcases hown.2 with ⟨rfl, rfl⟩ | ⟨g, cap, cur, rfl, hb, hg, hnc, hcm, hcs, htk⟩
    · refine ⟨_, w, key _ _ _ (Nat.le_refl _), by simpa using hown', World.grownBy.refl _ _, .inl rfl⟩
    · refine ⟨_, w, key _ _ _ hnc, by simpa using hown', World.grownBy.refl _ _, .inl rfl⟩

theorem step_append_gen {P : Program} (w : World) {ops : Array Oper} {o : Oper} {a : Act} {K : Act → World → Prop} {Q : Exit → Act → World → Prop} {E : Prop} (hgd : o.guard = none) (s x : Operand) (t : TypeId)
    (ho : o.op = .call { callee := .builtin .append, args := #[s, x], argTypes := #[t, t] })
    (base : Nat) (e : TypeId) (i : TypeInfo) (z : Value) (size bytes : Nat) (ht : P.underlying t = some (.slice e)) (hi : P.info? e = some i) (hz : i.zero = some z)
    (hsize : i.size = size) (hby : i.bytes = bytes) (hzs : z.cells.size = size) (hsz : 0 < size)
    (v : Value) (n : Nat) (xs : List Value) (hs : a.eval s = v) (hown : w.ownsRow base e size v n xs)
    (ad : Option Addr) (m c : Nat) (news : List Value) (hx : a.eval x = .slice ad m c) (hl : news.length = m * size) (hnews : ∀ j u, news[j]? = some u → ∃ x : Addr, ad = some x ∧ w.cell? (x.add j) = some u) (h1 : ∀ u ∈ news, u.oneCell' = true)
    (h63 : n + m ≤ maxLen) (hbytes : (n + m) * bytes ≤ 140737488355328) (hbase : base ≤ w.heap.size)
    (h : ∀ v' w', w'.ownsRow base e size v' (n + m) (xs ++ news) → w.grownBy w' v.ownBlock → (v'.ownBlock = v.ownBlock ∨ v'.ownBlock = some w.heap.size) → K (a.put o.dst v') w') :
    if Region.wanted o (yielded ops a.tmps) = true then Oper.wp P o a w K Q else E := by
  have hw : Region.wanted o (yielded ops a.tmps) = true := by simp [Region.wanted, hgd]
  rw [if_pos hw]
  obtain ⟨v', w', hr, h2, h3, h4⟩ := run_append_gen (P := P) w base t o.type e i z size bytes ht hi hz hsize hby hzs hsz v n xs hown ad m c news hl hnews h1 h63 hbytes hbase
  unfold Oper.wp execOp
  simp only [ho, resolve, invoke, builtin, Sem.run_bind, Sem.run_pure, Result.andThen_ok, List.map_toArray, List.map_cons, List.map_nil, hs, hx, hr]
  exact h v' w' h2 h3 h4

theorem info_parts {P : Program} {e : TypeId} {z : Value} {n b : Nat} (h : (P.info? e).map (fun i => (i.zero, i.size, i.bytes)) = some (some z, n, b)) : ∃ i, P.info? e = some i ∧ i.zero = some z ∧ i.size = n ∧ i.bytes = b := by
  cases hi : P.info? e with
  | none => rw [hi] at h; cases h
  | some i => rw [hi] at h; simp at h; exact ⟨i, rfl, h.1, h.2.1, h.2.2⟩

def clV : List (Int × Int) → List Value
  | [] => []
  | c :: l => .int .i64 c.1 :: .int .i64 c.2 :: clV l
theorem clV_len : ∀ l : List (Int × Int), (clV l).length = l.length * 2 := by
  intro l; induction l with
  | nil => rfl
  | cons o l ih => simp only [clV, List.length_cons, ih]; omega
theorem clV_app : ∀ a b : List (Int × Int), clV (a ++ b) = clV a ++ clV b := by
  intro a b; induction a with
  | nil => rfl
  | cons o l ih => simp only [List.cons_append, clV, ih]
theorem clV_get : ∀ (l : List (Int × Int)) (k : Nat), k < l.length → (clV l)[k * 2]? = some (.int .i64 (l.getD k (0, 0)).1) ∧ (clV l)[k * 2 + 1]? = some (.int .i64 (l.getD k (0, 0)).2) := by
  intro l; induction l with
  | nil => intro k hk; simp at hk
  | cons o l ih =>
    intro k hk
    cases k with
    | zero => exact ⟨rfl, rfl⟩
    | succ k =>
      have h := ih k (by simpa using hk)
      rw [show (k + 1) * 2 = k * 2 + 2 by omega]
      exact h
theorem clV_one : ∀ (l : List (Int × Int)), ∀ u ∈ clV l, u.oneCell' = true := by
  intro l; induction l with
  | nil => intro u h; cases h
  | cons o l ih => intro u h; simp only [clV, List.mem_cons] at h; rcases h with rfl | rfl | h <;> first | rfl | exact ih u h
theorem clV_cells {w : World} {ad : Option Addr} {l : List (Int × Int)} (h : ClkA w ad l) : ∀ j u, (clV l)[j]? = some u → ∃ x : Addr, ad = some x ∧ w.cell? (x.add j) = some u := by
  intro j u hj
  have hlt : j < l.length * 2 := by rw [← clV_len]; exact (List.getElem?_eq_some_iff.1 hj).1
  have hk : j / 2 < l.length := by omega
  obtain ⟨b, off, rfl, hb, c0, c1⟩ := h (j / 2) hk
  obtain ⟨g0, g1⟩ := clV_get l (j / 2) hk
  have hadd : (⟨b, off, none⟩ : Addr).add j = ⟨b, off + j, none⟩ := by unfold Addr.add; by_cases h : j = 0 <;> simp [h]
  refine ⟨_, rfl, ?_⟩
  rw [hadd]
  have h3 : j % 2 = 0 ∨ j % 2 = 1 := by omega
  rcases h3 with h3 | h3
  · have e : j / 2 * 2 = j := by omega
    rw [e] at g0 c0; rw [c0, ← g0, hj]
  · have e : j / 2 * 2 + 1 = j := by omega
    rw [e] at g1; rw [show off + j = off + j / 2 * 2 + 1 by omega, c1, ← g1, hj]
theorem clV_owns {w : World} {base : Nat} {e : TypeId} {v : Value} {n : Nat} {l : List (Int × Int)} (hn : n = l.length) (h : w.ownsRow base e 2 v n (clV l)) : ∃ ad cap, v = .slice ad n cap ∧ ClkA w ad l := by
  subst hn
  rcases h.2 with ⟨rfl, h0⟩ | ⟨g, cap, cur, rfl, hb, hg, hnc, hcm, hcs, htk⟩
  · exact ⟨none, 0, by rw [h0], fun k hk => by omega⟩
  · refine ⟨_, cap, rfl, fun k hk => ⟨g, 0, rfl, (Array.getElem?_eq_some_iff.1 hg).1, ?_⟩⟩
    obtain ⟨g0, g1⟩ := clV_get l k hk
    have key : ∀ j, j < l.length * 2 → w.cell? ⟨g, 0 + j, none⟩ = (clV l)[j]? := by
      intro j hj
      have hcur : cur[j]? = (clV l)[j]? := by
        rw [← htk, List.getElem?_take_of_lt hj]; simp
      rw [← hcur, Nat.zero_add]
      simp only [World.cell?, hg]
      have : j < cur.size := by rw [hcs]; have := Nat.mul_le_mul_right 2 hnc; omega
      simp [this]
    exact ⟨(key _ (by omega)).trans g0, (key _ (by omega)).trans g1⟩
theorem own0 (w w3 : World) (h : w.heap.size ≤ w3.heap.size) : (w3.alloc (.cells #[] 43)).ownsRow w.heap.size 43 2 (.slice (some ⟨w3.heap.size, 0, none⟩) 0 0) 0 [] :=
  ⟨rfl, .inr ⟨w3.heap.size, 0, #[], rfl, h, heap_new w3 _, Nat.le_refl _, by unfold maxLen; omega, rfl, rfl⟩⟩
theorem own_slice {base g n c : Nat} (h : base ≤ g) : ∀ k, (Value.slice (some ⟨g, 0, none⟩) n c).ownBlock = some k → base ≤ k := by
  intro k e; cases e; exact h
theorem own_ge {w : World} {base : Nat} {e : TypeId} {size n : Nat} {v : Value} {xs : List Value} (h : w.ownsRow base e size v n xs) : ∀ k, v.ownBlock = some k → base ≤ k := by
  intro k hk
  rcases h.2 with ⟨rfl, _⟩ | ⟨g, cap, cur, rfl, hb, _⟩
  · cases hk
  · simp [Value.ownBlock] at hk; omega

/-- What the law's loop knows of its clocks: all are their expressions', or the last one's expression has none. -/
def GoodB (p : PG) (C : List (Int × Int)) (g : Bool) : Prop := if g = true then syn.Good p C else ∃ C0 c, C = C0 ++ [c] ∧ syn.Good p C0 ∧ ∃ h : C0.length < p.flows.length, rclkE (envC p C0) p.flows[C0.length].e = none
theorem GoodB.len {p : PG} {C : List (Int × Int)} {g : Bool} (h : GoodB p C g) : C.length ≤ p.flows.length := by
  unfold GoodB at h
  cases g with
  | true => exact h.1
  | false =>
    obtain ⟨C0, c, rfl, _, hl, _⟩ := h
    rw [List.length_append, List.length_singleton]; exact hl
theorem GoodB.next {p : PG} {C : List (Int × Int)} (h : GoodB p C true) (hi : C.length < p.flows.length) {pp ff : Int} {b : Bool} (hr : rclkE (envC p C) p.flows[C.length].e = (if b = true then some (pp, ff) else none)) : GoodB p (C ++ [(pp, ff)]) b := by
  have h : syn.Good p C := h
  cases b with
  | true => exact h.snoc hi hr
  | false => exact ⟨C, _, rfl, h, hi, hr⟩
def AheadTo (p : PG) (a b : Nat) : Prop := ∀ j (h : j < p.flows.length), a ≤ j → j < b → ahE p ((p.ins.length : Int) + (j : Int)) p.flows[j].e = true
theorem AheadTo.next {p : PG} {a b : Nat} (h : AheadTo p a b) (hb : ∀ h : b < p.flows.length, ahE p ((p.ins.length : Int) + (b : Int)) p.flows[b].e = true) : AheadTo p a (b + 1) := by
  intro j hj h1 h2
  by_cases he : j < b
  · exact h j hj h1 he
  · have : j = b := by omega
    subst this; exact hb hj
def LRel (W3 : World) (p : PG) (v3 v4 v5 : Value) (wr : World) : Prop :=
  ∃ (C : List (Int × Int)) (al : Option Addr) (cl : Nat) (g : Bool), v3 = .slice al C.length cl ∧ v4 = .bool g ∧ v5 = .int .i64 (C.length : Int) ∧ ClkA wr al C ∧ GoodB p C g ∧ AheadTo p 0 C.length ∧ Below W3.heap.size W3 wr
/-- What the reference's clock of a flow leaves. -/
def K67 (wr : World) (r : Option (Int × Int)) (s6 s7 : Value) (W : World) : Prop :=
  ∃ (b6 : Nat) (pp ff : Int) (b : Bool), s6 = .pointer (some ⟨b6, 0, none⟩) ∧ s7 = .bool b ∧ r = (if b = true then some (pp, ff) else none) ∧ Below wr.heap.size wr W ∧ wr.heap.size ≤ b6 ∧ b6 < W.heap.size ∧
    W.cell? ⟨b6, 0, none⟩ = some (.int .i64 pp) ∧ W.cell? ⟨b6, 1, none⟩ = some (.int .i64 ff)
def K3 (wr : World) (C : List (Int × Int)) (s3 : Value) (W : World) : Prop := ∃ al cl, s3 = .slice al C.length cl ∧ ClkA W al C ∧ Below wr.heap.size wr W
theorem allF {p : PG} (hR : RightF p) (hN : NamesF p) (hA : AheadTo p 0 p.flows.length) : AllF p := fun i h =>
  ⟨(hR.flows _ (List.getElem_mem h)).2, (hN.flows i h).2, hA i h (Nat.zero_le _) h⟩
theorem sumN_le : ∀ l : List ND, (∀ x ∈ l, x.body.args.sz ≤ 100) → sumN l ≤ 101 * l.length := by
  intro l; induction l with
  | nil => intro _; exact Nat.zero_le _
  | cons x l ih => intro h; have h1 := h x List.mem_cons_self; have h2 := ih (fun y hy => h y (List.mem_cons_of_mem _ hy)); simp only [sumN, List.length_cons, PE.sz] at *; omega
theorem sumF_le : ∀ l : List FL, (∀ x ∈ l, x.e.args.sz ≤ 100) → sumF l ≤ 101 * l.length := by
  intro l; induction l with
  | nil => intro _; exact Nat.zero_le _
  | cons x l ih => intro h; have h1 := h x List.mem_cons_self; have h2 := ih (fun y hy => h y (List.mem_cons_of_mem _ hy)); simp only [sumF, List.length_cons, PE.sz] at *; omega
theorem sums {p : PG} (hR : RightF p) : sumN p.nodes + sumF p.flows ≤ 8000 := by
  have key : ∀ l : PL, szL l 1 100 ≤ 100 → l.sz ≤ 100 := by
    intro l h
    have := szL_sz l 1 100 (by omega) (by omega) h
    omega
  have h1 := sumN_le p.nodes (fun x hx => key _ (hR.nodes x hx).1)
  have h2 := sumF_le p.flows (fun x hx => key _ (hR.flows x hx).1)
  have h3 := hR.lens
  omega
end Go.Proofs.Ytjcmjlkihfcdcaa.fin
