/-
  Streams as lists, and where their values come from: plain facts.
-/
import Derived.Test.YtdlgpfbfhaifgaaRef07B
import Derived.Test.YtdlgpfbfhaifgaaTrip
namespace Go.Proofs.Ytdlgpfbfhaifgaa.index
open Go.RowKit clock lite
set_option linter.unusedVariables false

/-- The list's values are those that the operators tell of (the outermost first). -/
def PS (r : List Op3) (L : List Op3) : Prop := ∀ i, i < L.length → L.getD i (0, 0, 0) = outA (backA r (i : Int))

theorem getD_app {L : List Op3} {x : Op3} {i : Nat} (h : i < L.length) : (L ++ [x]).getD i (0, 0, 0) = L.getD i (0, 0, 0) := by
  rw [plain.getD_lt _ (by simp; omega), plain.getD_lt _ h, List.getElem_append_left h]
theorem getD_end {L : List Op3} {x : Op3} : (L ++ [x]).getD L.length (0, 0, 0) = x := by
  rw [plain.getD_lt _ (by simp), List.getElem_append_right (Nat.le_refl _)]; simp
theorem snoc_all {P : Nat → Op3 → Prop} {L : List Op3} {x : Op3} (h : ∀ i, i < L.length → P i (L.getD i (0, 0, 0))) (hx : P L.length x) : ∀ i, i < (L ++ [x]).length → P i ((L ++ [x]).getD i (0, 0, 0)) := by
  intro i hi
  by_cases hlt : i < L.length
  · rw [getD_app hlt]; exact h i hlt
  · have : i = L.length := by simp at hi; omega
    subst this
    rw [getD_end]; exact hx
theorem PS.src {L : List Op3} (h : PS [] L) : PS [] (L ++ [((L.length : Int), 0, 1)]) := snoc_all (P := fun i x => x = outA (backA [] (i : Int))) h rfl

theorem back_over {N d : Int} {r : List Op3} {i : Nat} (hN : 1 ≤ N) : backA ((3, N, d) :: r) (i : Int) = backA r ((i / N.toNat : Nat) : Int) := by
  have e : ((i / N.toNat : Nat) : Int) = (i : Int) / N := by rw [Int.natCast_ediv, Int.toNat_of_nonneg (by omega)]
  rw [e, backA]
  have : stepA (3, N, d) (i : Int) = .ok ((i : Int) / N) := by simp [stepA, stepP, beginsB]
  rw [this]
theorem back_under {N d : Int} {r : List Op3} {i : Nat} (hN : 1 ≤ N) (h : i * N.toNat ≤ 100000) : backA ((4, N, d) :: r) (i : Int) = backA r ((i * N.toNat : Nat) : Int) := by
  have e : ((i * N.toNat : Nat) : Int) = (i : Int) * N := by rw [Int.natCast_mul, Int.toNat_of_nonneg (by omega)]
  have h2 : (i : Int) * N ≤ 1099511627776 := by rw [← e]; omega
  rw [e, backA]
  have : stepA (4, N, d) (i : Int) = .ok ((i : Int) * N) := by simp [stepA, stepP, beginsB, h2]
  rw [this]
theorem back_shift {N d : Int} {r : List Op3} {i : Nat} : backA ((5, N, d) :: r) (i : Int) = backA r (i : Int) := by
  rw [backA]
  have : stepA (5, N, d) (i : Int) = .ok (i : Int) := by simp [stepA, stepP, beginsB]
  rw [this]
theorem back_tail {N d : Int} {r : List Op3} {i : Nat} (h : i < 100000) : backA ((7, N, d) :: r) (i : Int) = backA r ((i + 1 : Nat) : Int) := by
  have e : ((i + 1 : Nat) : Int) = (i : Int) + 1 := by omega
  have h2 : (i : Int) < 1099511627776 := by omega
  rw [e, backA]
  have hp : stepP (7, N, d) (i : Int) = some ((i : Int) + 1) := by
    unfold stepP
    rw [if_neg (show ¬ (7 : Int) = 3 by decide), if_neg (show ¬ (7 : Int) = 4 by decide), if_neg (show ¬ ((7 : Int) = 6 ∨ (7 : Int) = 8) by decide), if_pos (show (7 : Int) = 7 from rfl), if_pos h2]
  have : stepA (7, N, d) (i : Int) = .ok ((i : Int) + 1) := by
    unfold stepA
    rw [if_neg (show ¬ ((i : Int) = 0 ∧ beginsB (7, N, d) = true) from fun h => by have := h.2; simp [beginsB] at this), hp]
  rw [this]
theorem back_cons0 {k N d : Int} {r : List Op3} (hk : k = 6 ∨ k = 8) : backA ((k, N, d) :: r) ((0 : Nat) : Int) = .error (0, N, 2) := by
  rw [backA]
  have : stepA (k, N, d) ((0 : Nat) : Int) = .error (0, N, 2) := by unfold stepA; rw [if_pos ⟨rfl, by simp [beginsB, hk]⟩]
  rw [this]
theorem back_cons1 {k N d : Int} {r : List Op3} {i : Nat} (hk : k = 6 ∨ k = 8) : backA ((k, N, d) :: r) ((i + 1 : Nat) : Int) = backA r (i : Int) := by
  rw [backA]
  have e : ((i + 1 : Nat) : Int) - 1 = (i : Int) := by omega
  have : stepA (k, N, d) ((i + 1 : Nat) : Int) = .ok (i : Int) := by
    unfold stepA; rw [if_neg (by omega)]
    unfold stepP
    rcases hk with rfl | rfl <;> simp <;> omega
  rw [this]

def OverP (N : Nat) (L M : List Op3) : Prop := ∀ i, i < M.length → i / N < L.length ∧ M.getD i (0, 0, 0) = L.getD (i / N) (0, 0, 0)
theorem OverP.snoc {N : Nat} {L M : List Op3} {k : Nat} (h : OverP N L M) (hk : M.length / N = k) (hkl : k < L.length) : OverP N L (M ++ [L.getD k (0, 0, 0)]) :=
  snoc_all (P := fun i x => i / N < L.length ∧ x = L.getD (i / N) (0, 0, 0)) h (by rw [hk]; exact ⟨hkl, rfl⟩)
theorem PS.over {N d : Int} {r L M : List Op3} (hN : 1 ≤ N) (h : PS r L) (hM : OverP N.toNat L M) : PS ((3, N, d) :: r) M := by
  intro i hi
  rw [back_over hN, (hM i hi).2]; exact h _ (hM i hi).1
def UnderP (N : Nat) (L M : List Op3) : Prop := ∀ i, i < M.length → i * N < L.length ∧ M.getD i (0, 0, 0) = L.getD (i * N) (0, 0, 0)
theorem UnderP.snoc {N : Nat} {L M : List Op3} {k : Nat} (h : UnderP N L M) (hk : M.length * N = k) (hkl : k < L.length) : UnderP N L (M ++ [L.getD k (0, 0, 0)]) :=
  snoc_all (P := fun i x => i * N < L.length ∧ x = L.getD (i * N) (0, 0, 0)) h (by rw [hk]; exact ⟨hkl, rfl⟩)
theorem PS.under {N d : Int} {r L M : List Op3} (hN : 1 ≤ N) (hL : L.length ≤ 100000) (h : PS r L) (hM : UnderP N.toNat L M) : PS ((4, N, d) :: r) M := by
  intro i hi
  rw [back_under hN (by have := (hM i hi).1; omega), (hM i hi).2]; exact h _ (hM i hi).1
theorem PS.shift {N d : Int} {r L : List Op3} (h : PS r L) : PS ((5, N, d) :: r) L := by
  intro i hi; rw [back_shift]; exact h i hi
theorem PS.tail {N d : Int} {r L : List Op3} {x : Op3} (hL : L.length ≤ 100000) (h : PS r (x :: L)) : PS ((7, N, d) :: r) L := by
  intro i hi
  rw [back_tail (by omega)]
  exact h (i + 1) (by simpa using hi)
theorem PS.nil {r : List Op3} : PS r [] := fun i hi => by simp at hi
theorem PS.cons {k N d : Int} {r L : List Op3} (hk : k = 6 ∨ k = 8) (h : PS r L) : PS ((k, N, d) :: r) ((0, N, 2) :: L) := by
  intro i hi
  cases i with
  | zero => rw [back_cons0 hk]; rfl
  | succ i => rw [back_cons1 hk]; exact h i (by simpa using hi)
end Go.Proofs.Ytdlgpfbfhaifgaa.index
