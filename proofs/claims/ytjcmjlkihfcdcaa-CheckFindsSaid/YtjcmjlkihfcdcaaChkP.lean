/-
  Pure: what the reference's clocks and the program's have to do with one another.
-/
import Derived.Test.YtjcmjlkihfcdcaaChk10
import Derived.Test.YtjcmjlkihfcdcaaRef4c
namespace Go.Proofs.Ytjcmjlkihfcdcaa.syn
open Go.RowKit
set_option linter.unusedVariables false
set_option linter.unusedSimpArgs false

theorem szL_sz : ∀ (l : PL) (n most : Int), 1 ≤ n → n ≤ most + 1 → szL l n most ≤ most → szL l n most = n + (l.sz : Int) := by
  intro l
  induction l with
  | nil => intro n most h1 h2 h3; simp only [szL, PL.sz]; omega
  | cons k nm n' d args a tl ih1 ih2 =>
    intro n most h1 h2 h3
    rw [szL] at h3 ⊢
    by_cases h : n ≤ most
    · rw [if_pos h] at h3 ⊢
      have b1 := szL_bd args 1 (most - n) (by omega) (by omega)
      have b2 := szL_bd tl (n + szL args 1 (most - n)) most (by omega) (by omega)
      have e1 := ih1 1 (most - n) (by omega) (by omega) (by omega)
      have e2 := ih2 (n + szL args 1 (most - n)) most (by omega) (by omega) h3
      rw [e2, e1]
      simp only [PL.sz]; omega
    · rw [if_neg h] at h3; omega

/-- The reference's clock of an expression, out of those of its arguments. -/
def rclk1 (env : ByteArray → Int × Int) (k : Int) (nm : ByteArray) (n d : Int) (rs : List (Option (Int × Int))) : Option (Int × Int) :=
  if k = 1 then some (env nm) else match rs with
    | [] => none
    | none :: _ => none
    | some c :: rest => if k = 2 then (if rest.all (fun x => decide (x = some c)) = true then some c else none)
        else if (clock.applyP c.1 c.2 k n d).2.2 = 0 then some ((clock.applyP c.1 c.2 k n d).1, (clock.applyP c.1 c.2 k n d).2.1) else none
def rclkL (env : ByteArray → Int × Int) : PL → List (Option (Int × Int))
  | .nil => []
  | .cons k nm n d args a tl => rclk1 env k nm n d (rclkL env args) :: rclkL env tl
def rclkE (env : ByteArray → Int × Int) (e : PE) : Option (Int × Int) := rclk1 env e.k e.nm e.n e.d (rclkL env e.args)
/-- All calls of a row have arguments of one clock. -/
def wlL (E : Env) : PL → Bool
  | .nil => true
  | .cons k nm n d args a tl => (okE E ⟨k, nm, n, d, args, a⟩ && wlL E args) && wlL E tl
theorem wlL_items (E : Env) : ∀ l : PL, (itemsL l).all (okE E) = wlL E l := by
  intro l
  induction l with
  | nil => rfl
  | cons k nm n d args a tl ih1 ih2 => simp only [itemsL, wlL, List.all_cons, List.all_append, ih1, ih2, Bool.and_assoc]
/-- All names of a row are known, and as the reference has them. -/
def KnL (E : Env) (env : ByteArray → Int × Int) : PL → Prop
  | .nil => True
  | .cons k nm n d args a tl => (k = 1 → E nm = some (env nm)) ∧ KnL E env args ∧ KnL E env tl
/-- An element's clock is told, and all its calls are well, just if the reference has it. -/
def Rel1 (E : Env) (env : ByteArray → Int × Int) (k : Int) (nm : ByteArray) (n d a : Int) (args : PL) : Prop :=
  (∀ p f, rclk1 env k nm n d (rclkL env args) = some (p, f) ↔ (tell1 E k nm n d a (tellL E args) = .ok p f ∧ okE E ⟨k, nm, n, d, args, a⟩ = true ∧ wlL E args = true)) ∧ tell1 E k nm n d a (tellL E args) ≠ .unk
def RelL (E : Env) (env : ByteArray → Int × Int) : PL → Prop
  | .nil => True
  | .cons k nm n d args a tl => Rel1 E env k nm n d a args ∧ RelL E env tl

theorem rest_all (E : Env) (env : ByteArray → Int × Int) (c : Int × Int) : ∀ l : PL, RelL E env l → ((rclkL env l).all (fun x => decide (x = some c)) = true ↔ (ckL E c l = true ∧ wlL E l = true)) := by
  intro l
  induction l with
  | nil => intro _; simp [rclkL, ckL, wlL]
  | cons k nm n d args a tl ih1 ih2 =>
    intro h
    obtain ⟨⟨h1, h2⟩, h3⟩ := h
    have h4 := ih2 h3
    obtain ⟨c1, c2⟩ := c
    rw [rclkL, List.all_cons, Bool.and_eq_true, h4, decide_eq_true_iff, h1 c1 c2]
    rw [ckL, wlL]
    generalize tell1 E k nm n d a (tellL E args) = t at h2
    cases t with
    | unk => exact (h2 rfl).elim
    | bad ab eb => simp
    | ok p f =>
      simp only [TT.ok.injEq, Bool.and_eq_true, decide_eq_true_iff, Prod.mk.injEq]
      constructor
      · rintro ⟨⟨⟨rfl, rfl⟩, h5, h6⟩, h7, h8⟩; exact ⟨⟨⟨rfl, rfl⟩, h7⟩, ⟨h5, h6⟩, h8⟩
      · rintro ⟨⟨⟨rfl, rfl⟩, h7⟩, ⟨h5, h6⟩, h8⟩; exact ⟨⟨⟨rfl, rfl⟩, h5, h6⟩, h7, h8⟩

theorem exE_one {k n d : Int} {nm : ByteArray} {len : Nat} (h : exE k n d nm len = true) (hk : k = 1) : len = 0 := by
  subst hk; unfold exE at h; simp at h; exact h.1.1.2
theorem exE_two {k n d : Int} {nm : ByteArray} {len : Nat} (h : exE k n d nm len = true) (hk : k = 2) : 1 ≤ len := by
  subst hk; unfold exE at h; simp at h; omega
theorem exE_op {k n d : Int} {nm : ByteArray} {len : Nat} (h : exE k n d nm len = true) (h1 : k ≠ 1) (h2 : k ≠ 2) : len = 1 := by
  apply Classical.byContradiction; intro hc
  rw [exE_len h1 h2 hc] at h; cases h

theorem rel_one (E : Env) (env : ByteArray → Int × Int) (k : Int) (nm : ByteArray) (n d a : Int) (args : PL) (hx : exE k n d nm args.len = true) (hn : k = 1 → E nm = some (env nm)) (hr : RelL E env args) : Rel1 E env k nm n d a args := by
  unfold Rel1
  by_cases hk1 : k = 1
  · have hl := exE_one hx hk1
    subst hk1
    cases args with
    | cons k0 nm0 n0 d0 args0 a0 tl0 => simp [PL.len] at hl
    | nil =>
      have he := hn rfl
      unfold rclk1 tell1 okE wlL
      rw [if_pos rfl, if_pos rfl, he]
      refine ⟨fun p f => ?_, by intro h; cases h⟩
      simp only [Option.some.injEq, TT.ok.injEq]
      constructor
      · intro h; rw [h]; simp
      · rintro ⟨⟨h1, h2⟩, _⟩; rw [← h1, ← h2]
  · cases args with
    | nil =>
      exfalso
      by_cases hk2 : k = 2
      · have := exE_two hx hk2; simp [PL.len] at this
      · have := exE_op hx hk1 hk2; simp [PL.len] at this
    | cons k0 nm0 n0 d0 args0 a0 tl0 =>
      obtain ⟨⟨h1, h2⟩, h3⟩ := hr
      have hrest := fun c => rest_all E env c tl0 h3
      unfold rclk1 tell1
      rw [if_neg hk1, if_neg hk1, rclkL, tellL]
      unfold okE
      rw [wlL]
      cases ht : tell1 E k0 nm0 n0 d0 a0 (tellL E args0) with
      | unk => exact (h2 ht).elim
      | bad ab eb =>
        have hnone : rclk1 env k0 nm0 n0 d0 (rclkL env args0) = none := by
          cases hr0 : rclk1 env k0 nm0 n0 d0 (rclkL env args0) with
          | none => rfl
          | some c => obtain ⟨c1, c2⟩ := c; have := ((h1 c1 c2).1 hr0).1; rw [ht] at this; cases this
        rw [hnone]
        simp
      | ok p0 f0 =>
        have h1' := h1 p0 f0
        rw [ht] at h1'
        simp only
        cases hr0 : rclk1 env k0 nm0 n0 d0 (rclkL env args0) with
        | none =>
          have hno : ¬ (okE E ⟨k0, nm0, n0, d0, args0, a0⟩ = true ∧ wlL E args0 = true) := by
            intro h; have := h1'.2 ⟨rfl, h⟩; rw [hr0] at this; cases this
          refine ⟨fun p f => ?_, ?_⟩
          · simp only [Bool.and_eq_true]
            constructor
            · intro h; cases h
            · rintro ⟨_, _, h5, _⟩; exact (hno h5).elim
          · split
            · intro h; cases h
            · split <;> (intro h; cases h)
        | some c =>
          obtain ⟨c1, c2⟩ := c
          have h6 := (h1 c1 c2).1 hr0
          rw [ht] at h6
          obtain ⟨h7, h8, h9⟩ := h6
          injection h7 with h10 h11
          subst h10; subst h11
          simp only
          by_cases hk2 : k = 2
          · rw [if_pos hk2, if_pos hk2]
            have hall := hrest (p0, f0)
            refine ⟨fun p f => ?_, by intro h; cases h⟩
            have hcka : ckA E (.cons k0 nm0 n0 d0 args0 a0 tl0) = ckL E (p0, f0) tl0 := by rw [ckA, ht]
            simp only [hcka, hk2, h8, h9, Bool.true_and, Bool.and_eq_true, TT.ok.injEq, ne_eq, not_true_eq_false, decide_false, Bool.false_or, and_self, true_and]
            by_cases hx2 : (rclkL env tl0).all (fun x => decide (x = some (p0, f0))) = true
            · rw [if_pos hx2]
              have := hall.1 hx2
              simp only [Option.some.injEq, Prod.mk.injEq]
              constructor
              · intro h; exact ⟨h, this.1, this.2⟩
              · intro h; exact h.1
            · rw [if_neg hx2]
              constructor
              · intro h; cases h
              · rintro ⟨_, h12, h13⟩; exact (hx2 (hall.2 ⟨h12, h13⟩)).elim
          · have hl := exE_op hx hk1 hk2
            have htl : tl0 = .nil := by
              cases tl0 with
              | nil => rfl
              | cons => simp [PL.len] at hl
            subst htl
            rw [if_neg hk2, if_neg hk2]
            by_cases h0 : (clock.applyP p0 f0 k n d).2.2 = 0
            · rw [if_pos h0, if_pos h0]
              refine ⟨fun p f => ?_, by intro h; cases h⟩
              simp only [Option.some.injEq, Prod.mk.injEq, TT.ok.injEq, hk2, h8, h9, wlL, ne_eq, not_false_eq_true, decide_true, Bool.true_or, Bool.and_self, and_true]
            · rw [if_neg h0, if_neg h0]
              refine ⟨fun p f => ?_, by intro h; cases h⟩
              constructor
              · intro h; cases h
              · rintro ⟨h, _⟩; cases h

theorem rel_all (E : Env) (env : ByteArray → Int × Int) : ∀ l : PL, exR l = true → KnL E env l → RelL E env l := by
  intro l
  induction l with
  | nil => intro _ _; trivial
  | cons k nm n d args a tl ih1 ih2 =>
    intro hx hn
    rw [exR, Bool.and_eq_true, Bool.and_eq_true] at hx
    obtain ⟨⟨hx1, hx2⟩, hx3⟩ := hx
    obtain ⟨hn1, hn2, hn3⟩ := hn
    exact ⟨rel_one E env k nm n d a args hx2 hn1 (ih1 hx1 hn2), ih2 hx3 hn3⟩
/-- Of an expression whose names are known: it is told and well just if the reference has its clock; and something is told. -/
theorem rel_expr (E : Env) (env : ByteArray → Int × Int) (e : PE) (hx : exprOK e = true) (h1 : e.k = 1 → E e.nm = some (env e.nm)) (h2 : KnL E env e.args) :
    (∀ p f, rclkE env e = some (p, f) ↔ (tellE E e = .ok p f ∧ okE E e = true ∧ wlL E e.args = true)) ∧ tellE E e ≠ .unk := by
  unfold exprOK at hx
  rw [Bool.and_eq_true] at hx
  exact rel_one E env e.k e.nm e.n e.d e.a e.args hx.2 h1 (rel_all E env e.args hx.1 h2)

end Go.Proofs.Ytjcmjlkihfcdcaa.syn
