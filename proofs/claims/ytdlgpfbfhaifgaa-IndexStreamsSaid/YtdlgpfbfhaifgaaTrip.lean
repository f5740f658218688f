/-
  Rows of triples of numbers, one's own or not.
-/
import Derived.Test.YtdlgpfbfhaifgaaIdx1
import Derived.Test.YtdlgpfbfhaifgaaApp
namespace Go.Proofs.Ytdlgpfbfhaifgaa.index
open Go.RowKit clock lite
set_option linter.unusedVariables false

/-- The cells of operators. -/
def opV : List Op3 → List Value
  | [] => []
  | o :: l => .int .i64 o.1 :: .int .i64 o.2.1 :: .int .i64 o.2.2 :: opV l
theorem opV_len : ∀ l : List Op3, (opV l).length = l.length * 3 := by
  intro l; induction l with
  | nil => rfl
  | cons o l ih => simp only [opV, List.length_cons, ih]; omega
theorem opV_app : ∀ a b : List Op3, opV (a ++ b) = opV a ++ opV b := by
  intro a b; induction a with
  | nil => rfl
  | cons o l ih => simp only [List.cons_append, opV, ih]
theorem opV_get : ∀ (l : List Op3) (k : Nat), k < l.length → (opV l)[k * 3]? = some (.int .i64 (l.getD k (0, 0, 0)).1) ∧ (opV l)[k * 3 + 1]? = some (.int .i64 (l.getD k (0, 0, 0)).2.1) ∧ (opV l)[k * 3 + 2]? = some (.int .i64 (l.getD k (0, 0, 0)).2.2) := by
  intro l; induction l with
  | nil => intro k hk; simp at hk
  | cons o l ih =>
    intro k hk
    cases k with
    | zero => exact ⟨rfl, rfl, rfl⟩
    | succ k =>
      have h := ih k (by simpa using hk)
      rw [show (k + 1) * 3 = k * 3 + 3 by omega]
      exact h
theorem opV_one : ∀ (l : List Op3), ∀ u ∈ opV l, u.oneCell' = true := by
  intro l; induction l with
  | nil => intro u h; cases h
  | cons o l ih => intro u h; simp only [opV, List.mem_cons] at h; rcases h with rfl | rfl | rfl | h <;> first | rfl | exact ih u h
theorem opV_cells {w : World} {ad : Option Addr} {l : List Op3} (h : OpA w ad l) : ∀ j u, (opV l)[j]? = some u → ∃ x : Addr, ad = some x ∧ w.cell? (x.add j) = some u := by
  intro j u hj
  have hlt : j < l.length * 3 := by rw [← opV_len]; exact (List.getElem?_eq_some_iff.1 hj).1
  have hk : j / 3 < l.length := by omega
  obtain ⟨b, off, rfl, hb, c0, c1, c2⟩ := h (j / 3) hk
  obtain ⟨g0, g1, g2⟩ := opV_get l (j / 3) hk
  have hadd : (⟨b, off, none⟩ : Addr).add j = ⟨b, off + j, none⟩ := by unfold Addr.add; by_cases h : j = 0 <;> simp [h]
  refine ⟨_, rfl, ?_⟩
  rw [hadd]
  have h3 : j % 3 = 0 ∨ j % 3 = 1 ∨ j % 3 = 2 := by omega
  rcases h3 with h3 | h3 | h3
  · have e : j / 3 * 3 = j := by omega
    rw [e] at g0 c0; rw [c0, ← g0, hj]
  · have e : j / 3 * 3 + 1 = j := by omega
    rw [e] at g1; rw [show off + j = off + j / 3 * 3 + 1 by omega, c1, ← g1, hj]
  · have e : j / 3 * 3 + 2 = j := by omega
    rw [e] at g2; rw [show off + j = off + j / 3 * 3 + 2 by omega, c2, ← g2, hj]
theorem opA_owns {w : World} {base : Nat} {e : TypeId} {v : Value} {l : List Op3} (h : w.ownsRow base e 3 v l.length (opV l)) : ∃ ad cap, v = .slice ad l.length cap ∧ OpA w ad l := by
  rcases h.2 with ⟨rfl, h0⟩ | ⟨g, cap, cur, rfl, hb, hg, hnc, hcm, hcs, htk⟩
  · exact ⟨none, 0, by rw [h0], fun k hk => by omega⟩
  · refine ⟨_, cap, rfl, fun k hk => ⟨g, 0, rfl, (Array.getElem?_eq_some_iff.1 hg).1, ?_⟩⟩
    obtain ⟨g0, g1, g2⟩ := opV_get l k hk
    have key : ∀ j, j < l.length * 3 → w.cell? ⟨g, 0 + j, none⟩ = (opV l)[j]? := by
      intro j hj
      have hcur : cur[j]? = (opV l)[j]? := by
        rw [← htk, List.getElem?_take_of_lt hj]; simp
      rw [← hcur, Nat.zero_add]
      simp only [World.cell?, hg]
      have : j < cur.size := by rw [hcs]; have := Nat.mul_le_mul_right 3 hnc; omega
      simp [this]
    exact ⟨(key _ (by omega)).trans g0, (key _ (by omega)).trans g1, (key _ (by omega)).trans g2⟩
theorem own_slice {base g n c : Nat} (h : base ≤ g) : ∀ k, (Value.slice (some ⟨g, 0, none⟩) n c).ownBlock = some k → base ≤ k := by
  intro k e; cases e; exact h
theorem own_ge {w : World} {base : Nat} {e : TypeId} {size n : Nat} {v : Value} {xs : List Value} (h : w.ownsRow base e size v n xs) : ∀ k, v.ownBlock = some k → base ≤ k := by
  intro k hk
  rcases h.2 with ⟨rfl, _⟩ | ⟨g, cap, cur, rfl, hb, _⟩
  · cases hk
  · simp [Value.ownBlock] at hk; omega

theorem opA_owns' {w : World} {base : Nat} {e : TypeId} {v : Value} {n : Nat} {l : List Op3} (hn : n = l.length) (h : w.ownsRow base e 3 v n (opV l)) : ∃ ad cap, v = .slice ad n cap ∧ OpA w ad l ∧ n ≤ cap ∧ cap ≤ 9223372036854775807 := by
  subst hn
  obtain ⟨ad, cap, rfl, ho⟩ := opA_owns h
  refine ⟨ad, cap, rfl, ho, ?_⟩
  rcases h.2 with ⟨h1, h0⟩ | ⟨g, c, cur, h1, hb, hg, hnc, hcm, _⟩
  · injection h1 with e1 e2 e3; omega
  · injection h1 with e1 e2 e3; subst e3; exact ⟨hnc, hcm⟩
theorem own_nil (w : World) (base : Nat) (e : TypeId) : w.ownsRow base e 3 (.slice none 0 0) 0 (opV []) := ⟨rfl, .inl ⟨rfl, rfl⟩⟩
theorem opA_new (w : World) (T : TypeId) (x : Op3) : OpA (w.alloc (.cells #[.int .i64 x.1, .int .i64 x.2.1, .int .i64 x.2.2] T)) (some ⟨w.heap.size, 0, none⟩) [x] := by
  intro j hj
  have : j = 0 := by simpa using hj
  subst this
  exact ⟨w.heap.size, 0, rfl, by simp, by simp [go_sem], by simp [go_sem], by simp [go_sem]⟩
theorem OpA.tail {w : World} {b off : Nat} {x : Op3} {l : List Op3} (h : OpA w (some ⟨b, off, none⟩) (x :: l)) : OpA w (some ⟨b, off + 3, none⟩) l := by
  intro k hk
  obtain ⟨b', off', e, h1, h2, h3, h4⟩ := h (k + 1) (by simpa using hk)
  injection e with e; injection e with e1 e2; subst e1; subst e2
  rw [show b = b from rfl] at h1
  refine ⟨b, off + 3, rfl, h1, ?_, ?_, ?_⟩
  · rw [show off + 3 + k * 3 = off + (k + 1) * 3 by omega]; exact h2
  · rw [show off + 3 + k * 3 + 1 = off + (k + 1) * 3 + 1 by omega]; exact h3
  · rw [show off + 3 + k * 3 + 2 = off + (k + 1) * 3 + 2 by omega]; exact h4
end Go.Proofs.Ytdlgpfbfhaifgaa.index
