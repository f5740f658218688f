/-
  Depth, one: what is true of the map and of the level below, apart from the memory.
-/
import Derived.Test.YtlpoimagikolfaaMapPut
namespace Go.Proofs.Ytlpoimagikolfaa.syn
open Go.RowKit
set_option linter.unusedVariables false
set_option linter.unusedSimpArgs false

theorem PL.len_zero {l : PL} (h : l.len = 0) : l = .nil := by
  cases l with
  | nil => rfl
  | cons => simp [PL.len] at h
theorem PL.ht_pos {l : PL} (h : l ≠ .nil) : 1 ≤ l.ht := by
  cases l with
  | nil => exact (h rfl).elim
  | cons => simp only [PL.ht]; omega

/-- What lies from a cell on is what the memory says: two readings of one place and one length are one. -/
theorem Cells.uniq {w : World} {P Q : Nat → Prop} : ∀ (l l' : PL) (b o : Nat), Cells w P b l o → Cells w Q b l' o → l.len = l'.len → l = l' := by
  intro l
  induction l with
  | nil => intro l' b o _ _ hl; exact (PL.len_zero hl.symm).symm
  | cons k nm n d args a tl ih1 ih2 =>
    intro l' b o h h' hl
    cases l' with
    | nil => simp [PL.len] at hl
    | cons k' nm' n' d' args' a' tl' =>
      obtain ⟨h0, h1, h2, h3, h5, ⟨ad, cap, h4, hcap, hd⟩, ht⟩ := h
      obtain ⟨g0, g1, g2, g3, g5, ⟨ad', cap', g4, gcap, gd⟩, gt⟩ := h'
      rw [h0] at g0; rw [h1] at g1; rw [h2] at g2; rw [h3] at g3; rw [h5] at g5; rw [h4] at g4
      simp only [Option.some.injEq, Value.int.injEq, Value.string.injEq, Value.slice.injEq, true_and] at g0 g1 g2 g3 g5 g4
      obtain ⟨rfl, e2, -⟩ := g4
      have ea : args = args' := by
        rcases hd with rfl | ⟨b1, o1, e1, _, hd⟩
        · exact (PL.len_zero (by rw [← e2]; rfl)).symm
        · rcases gd with rfl | ⟨b2, o2, e3, _, gd⟩
          · exact PL.len_zero (by rw [e2]; rfl)
          · rw [e1] at e3
            injection e3 with e3
            injection e3 with e4 e5
            subst e4 e5
            exact ih1 _ _ _ hd gd e2
      have et : tl = tl' := ih2 _ _ _ ht gt (by simpa [PL.len] using hl)
      rw [g0, g1, g2, g3, g5, ea, et]

open Classical in
/-- The height of the list that lies at a place. -/
noncomputable def htAt (w : World) (P : Nat → Prop) (k : Key) : Nat :=
  if h : ∃ l : PL, Cells w P k.b l k.o ∧ l.len = k.n then h.choose.ht else 0
theorem htAt_eq {w : World} {P : Nat → Prop} {k : Key} {l : PL} (h : Cells w P k.b l k.o) (hl : l.len = k.n) : htAt w P k = l.ht := by
  have hx : ∃ l : PL, Cells w P k.b l k.o ∧ l.len = k.n := ⟨l, h, hl⟩
  unfold htAt
  rw [dif_pos hx]
  rw [Cells.uniq _ _ _ _ hx.choose_spec.1 h (hx.choose_spec.2.trans hl.symm)]

/-- As many entries as there are different heights. -/
theorem len_of_heights (f : Key → Nat) (H : Nat) : ∀ (n : Nat) (M : List (Key × Int)), n ≤ H → (∀ j, 1 ≤ j → j ≤ n → ∃ p ∈ M, f p.1 = H - j) → n ≤ M.length := by
  intro n
  induction n with
  | zero => intro M _ _; omega
  | succ n ih =>
    intro M hn h
    obtain ⟨p, hp, hf⟩ := h (n + 1) (by omega) (by omega)
    obtain ⟨l1, l2, rfl⟩ := List.append_of_mem hp
    have := ih (l1 ++ l2) (by omega) (by
      intro j h1 h2
      obtain ⟨q, hq, hg⟩ := h j h1 (by omega)
      refine ⟨q, ?_, hg⟩
      rw [List.mem_append, List.mem_cons] at hq
      rw [List.mem_append]
      rcases hq with hq | rfl | hq
      · exact .inl hq
      · exfalso; omega
      · exact .inr hq)
    simp only [List.length_append, List.length_cons] at this ⊢
    omega

def maxF (f : Key → Nat) : List Key → Nat
  | [] => 0
  | k :: l => max (f k) (maxF f l)
theorem maxF_snoc (f : Key → Nat) (l : List Key) (k : Key) : maxF f (l ++ [k]) = max (maxF f l) (f k) := by
  induction l with
  | nil => simp [maxF]
  | cons x l ih => simp only [List.cons_append, maxF, ih]; omega
theorem maxF_ge (f : Key → Nat) (l : List Key) {k : Key} (h : k ∈ l) : f k ≤ maxF f l := by
  induction l with
  | nil => cases h
  | cons x l ih =>
    simp only [maxF]
    rcases List.mem_cons.mp h with rfl | h
    · omega
    · have := ih h; omega
theorem maxF_at (f : Key → Nat) (l : List Key) (h : l ≠ []) : ∃ k ∈ l, f k = maxF f l := by
  induction l with
  | nil => exact (h rfl).elim
  | cons x l ih =>
    simp only [maxF]
    by_cases hl : l = []
    · subst hl; exact ⟨x, by simp, by simp [maxF]⟩
    · obtain ⟨k, hk, he⟩ := ih hl
      by_cases hx : maxF f l ≤ f x
      · exact ⟨x, by simp, by omega⟩
      · exact ⟨k, by simp [hk], by omega⟩

theorem getI_mem {k : Key} : ∀ {L : List (Key × Int)}, getI k L ≠ 0 → (k, getI k L) ∈ L := by
  intro L h
  unfold getI at h ⊢
  cases hf : L.find? (fun p => decide (k = p.1)) with
  | none => rw [hf] at h; exact (h rfl).elim
  | some p =>
    have h1 := List.find?_some hf
    have h2 := List.mem_of_find?_eq_some hf
    simp only [decide_eq_true_eq] at h1
    subst h1
    exact h2
theorem mem_putL {k : Key} {v : Int} {q : Key × Int} : ∀ {L : List (Key × Int)}, q ∈ putL k v L → q = (k, v) ∨ q ∈ L := by
  intro L
  induction L with
  | nil => intro h; simp [putL] at h; exact .inl h
  | cons p L ih =>
    intro h
    unfold putL at h
    split at h
    · rcases List.mem_cons.mp h with h | h
      · exact .inl h
      · exact .inr (by simp [h])
    · rcases List.mem_cons.mp h with h | h
      · exact .inr (by simp [h])
      · rcases ih h with h | h
        · exact .inl h
        · exact .inr (by simp [h])
theorem putL_self (k : Key) (v : Int) : ∀ (L : List (Key × Int)), (k, v) ∈ putL k v L := by
  intro L
  induction L with
  | nil => simp [putL]
  | cons p L ih =>
    unfold putL
    split
    · simp
    · simp [ih]
theorem putL_key {k : Key} {v : Int} {q : Key × Int} : ∀ {L : List (Key × Int)}, q ∈ L → ∃ u, (q.1, u) ∈ putL k v L := by
  intro L
  induction L with
  | nil => intro h; cases h
  | cons p L ih =>
    intro h
    unfold putL
    split
    · rename_i hk
      rcases List.mem_cons.mp h with rfl | h
      · exact ⟨v, by rw [← hk]; simp⟩
      · exact ⟨q.2, by simp [h]⟩
    · rcases List.mem_cons.mp h with rfl | h
      · exact ⟨q.2, by simp⟩
      · obtain ⟨u, hu⟩ := ih h
        exact ⟨u, by simp [hu]⟩

/-- What is true within a round of depth d: the map, the lists of the level below so far, and the greatest height t met so far. H is the height of the whole. -/
structure Met (f : Key → Nat) (H d : Nat) (M : List (Key × Int)) (B : List Key) (t : Nat) : Prop where
  low : ∀ p ∈ M, p.2 ≤ d
  met : ∀ p ∈ M, p.2 = d → p.1 ∈ B
  has : ∀ k ∈ B, ∃ u, (k, u) ∈ M
  top : maxF f B = t
  deep : ∀ j, 1 ≤ j → j < d → ∃ p ∈ M, f p.1 = H - j

theorem Met.start {f : Key → Nat} {H d : Nat} {M : List (Key × Int)} {B : List Key} {t : Nat} (h : Met f H d M B t) (ht : t = H - d) (hB : B ≠ []) : Met f H (d + 1) M [] 0 where
  low := fun p hp => by have := h.low p hp; omega
  met := fun p hp e => by have := h.low p hp; omega
  has := fun k hk => by cases hk
  top := rfl
  deep := fun j h1 h2 => by
    by_cases hj : j < d
    · exact h.deep j h1 hj
    · obtain rfl : j = d := by omega
      obtain ⟨k, hk, he⟩ := maxF_at f B hB
      obtain ⟨u, hu⟩ := h.has k hk
      exact ⟨_, hu, by rw [← ht, ← h.top]; exact he⟩
theorem Met.len {f : Key → Nat} {H d : Nat} {M : List (Key × Int)} {B : List Key} {t : Nat} (h : Met f H d M B t) (ht : t = H - d) (hd : d ≤ H) (hB : B ≠ []) : d ≤ M.length :=
  len_of_heights f H d M hd (fun j h1 h2 => (h.start ht hB).deep j h1 (by omega))
theorem Met.first (f : Key → Nat) (H : Nat) : Met f H 1 [] [] 0 where
  low := fun p hp => by cases hp
  met := fun p hp => by cases hp
  has := fun k hk => by cases hk
  top := rfl
  deep := fun j h1 h2 => by omega
theorem Met.put {f : Key → Nat} {H d : Nat} {M : List (Key × Int)} {B : List Key} {t : Nat} (h : Met f H d M B t) (k : Key) : Met f H d (putL k d M) (B ++ [k]) (max t (f k)) where
  low := fun p hp => by
    rcases mem_putL hp with rfl | hp
    · exact Int.le_refl _
    · exact h.low p hp
  met := fun p hp e => by
    rcases mem_putL hp with rfl | hp
    · simp
    · exact List.mem_append_left _ (h.met p hp e)
  has := fun q hq => by
    rw [List.mem_append, List.mem_singleton] at hq
    rcases hq with hq | rfl
    · obtain ⟨u, hu⟩ := h.has q hq
      exact putL_key hu
    · exact ⟨_, putL_self _ _ _⟩
  top := by rw [maxF_snoc, h.top]
  deep := fun j h1 h2 => by
    obtain ⟨p, hp, he⟩ := h.deep j h1 h2
    obtain ⟨u, hu⟩ := putL_key (k := k) (v := d) hp
    exact ⟨_, hu, he⟩
theorem Met.skip {f : Key → Nat} {H d : Nat} {M : List (Key × Int)} {B : List Key} {t : Nat} (h : Met f H d M B t) (k : Key) (hd : 1 ≤ d) (hk : ¬ getI k M < d) : Met f H d M B (max t (f k)) := by
  have hm := getI_mem (k := k) (L := M) (by omega)
  have h1 := h.low _ hm
  have h2 := h.met _ hm (by show getI k M = _; simp only at h1; omega)
  have h3 := maxF_ge f B h2
  rw [h.top] at h3
  have : max t (f k) = t := by simp only at h3; omega
  rw [this]; exact h

end Go.Proofs.Ytlpoimagikolfaa.syn
