/-
  How large what the parser reads may be: no larger than the tokens that it took.
-/
import Derived.Test.YtlpoimagikolfaaAtom
namespace Go.Proofs.Ytlpoimagikolfaa.syn
open Go.RowKit
set_option linter.unusedVariables false
set_option linter.unusedSimpArgs false

theorem PL.snoc_sz (e : PE) : ∀ l : PL, (l.snoc e).sz = l.sz + e.sz := by
  intro l
  induction l with
  | nil => simp [PL.snoc, PL.sz, PE.one_sz]
  | cons k nm n d args a tl _ ih => simp only [PL.snoc, PL.sz, ih]; omega
/-- An expression in hand, and the tokens ahead: together they never grow. -/
def Fits (e : PE) (S : St) (A : PE × St) : Prop := A.2.err = 0 → S.err = 0 ∧ A.1.sz + A.2.toks.length ≤ e.sz + S.toks.length
theorem fits_step {S : St} {en : Int} {e : PE} {A : PE × St} (h : seesP en signs3 S = true) (hA : Fits (S.factored en e).1 ((S.factored en e).2.whole (S.factored en e).1) A) : Fits e S A := fun he => by
  obtain ⟨h1, h2⟩ := hA he
  obtain ⟨h3, h4⟩ := adv_factored (e := e) h
  obtain ⟨h5, h6⟩ := (h3.trans adv_whole) h1
  exact ⟨h5, by omega⟩
theorem fits_follow (en : Int) : ∀ (m : Nat) (e : PE) (S : St), Fits e S (followLoop en m e S) := by
  intro m
  induction m with
  | zero => intro e S h; exact ⟨h, Nat.le_refl _⟩
  | succ m ih =>
    intro e S
    unfold followLoop
    split
    · rename_i h; exact fits_step h (ih _ _)
    · exact fun h => ⟨h, Nat.le_refl _⟩

theorem took_args {en : Int} {expr : St → PE × St} (L : Nat) (hx : ∀ S, (S.err = 0 → S.toks.length < L) → Took S (expr S)) : ∀ (m many : Nat) (acc : PL) (S : St), (S.err = 0 → S.toks.length < L) →
    (argsLoop en expr m many acc S).2.err = 0 → S.err = 0 ∧ (argsLoop en expr m many acc S).1.sz + (argsLoop en expr m many acc S).2.toks.length ≤ acc.sz + S.toks.length := by
  intro m
  induction m with
  | zero => intro many acc S _ h; exact ⟨h, Nat.le_refl _⟩
  | succ m ih =>
    intro many acc S hL
    unfold argsLoop
    split
    · rename_i hs
      simp only
      have h1 : Adv S (if many = 0 then S else S.next) 0 := by
        split
        · exact Adv.refl _
        · rename_i h0
          exact (adv_next (toks_sees (by simp [comma]) (hs.resolve_left h0))).less (by omega)
      generalize (if many = 0 then S else S.next) = S1 at h1
      have h2 : Adv S1 (if many = 6 ∧ exprB en S1 = true then S1.fail (S1.peek en).a 8 else S1) 0 := by
        split
        · exact adv_fail _ 8 _ (by decide) 0
        · exact Adv.refl _
      generalize (if many = 6 ∧ exprB en S1 = true then S1.fail (S1.peek en).a 8 else S1) = S2 at h2
      have h3 := h1.trans h2
      have h4 : Took S2 (expr S2) := hx S2 (fun e => by have := h3 e; have := hL this.1; omega)
      intro e
      obtain ⟨e1, h5⟩ := ih (many + 1) (acc.snoc (expr S2).1) (expr S2).2 (fun e => by have := h4 e; have := h3 this.1; have := hL this.1; omega) e
      have h6 := h4 e1
      have h7 := h3 h6.1
      rw [PL.snoc_sz] at h5
      exact ⟨h7.1, by omega⟩
    · exact fun h => ⟨h, Nat.le_refl _⟩

theorem took_call {en : Int} {expr : St → PE × St} (L : Nat) (hx : ∀ S, (S.err = 0 → S.toks.length < L) → Took S (expr S)) (t : Tok) (S : St) (hL : S.err = 0 → S.toks.length < L) : Took S (callP en expr t S) := by
  unfold callP
  simp only
  have h1 : Adv S (S.want en [lpar]).2 1 := adv_want (by simp [lpar])
  generalize (S.want en [lpar]).2 = S2 at h1
  have h2 := took_args (en := en) L hx (S2.toks.length + 2) 0 .nil S2 (fun e => by have := h1 e; have := hL this.1; omega)
  generalize argsLoop en expr (S2.toks.length + 2) 0 .nil S2 = R at h2
  intro e
  have h3 := ((adv_want (S := R.2) (en := en) (zs := [rpar]) (by simp [rpar])).trans adv_whole) e
  obtain ⟨h4, h5⟩ := h2 h3.1
  have h6 := h1 h4
  refine ⟨h6.1, ?_⟩
  have hz : PL.nil.sz = 0 := rfl
  show (St.whole ⟨2, t.t, 0, 0, R.1, t.a⟩ (R.2.want en [rpar]).2).toks.length + (R.1.sz + 1) ≤ _
  have h7 := h3.2
  have h8 := h6.2
  omega

theorem took_atom {en : Int} {expr : St → PE × St} (L : Nat) (hx : ∀ S, (S.err = 0 → S.toks.length < L) → Took S (expr S)) (S : St) (hL : S.err = 0 → S.toks.length < L + 1) : Took S (atomP en expr S) := by
  unfold atomP
  split
  · rename_i hs
    have h1 := adv_next (toks_sees (by simp [lpar]) hs)
    exact ((h1.trans (hx S.next (fun e => by have := h1 e; have := hL this.1; omega))).trans (adv_want (by simp [rpar]))).less (by simp only; omega)
  · have h1 := adv_name (S := S) (en := en)
    split
    · exact (h1.trans (took_call L hx _ _ (fun e => by have := h1 e; have := hL this.1; omega))).less (by omega)
    · exact h1

theorem took_next {en : Int} {expr : St → PE × St} (L : Nat) (hx : ∀ S, (S.err = 0 → S.toks.length < L) → Took S (expr S)) (S : St) (hL : S.err = 0 → S.toks.length < L + 1) : Took S (nextP en expr S) := fun e => by
  obtain ⟨e1, h1⟩ := fits_follow en _ _ _ e
  have h2 := took_atom (en := en) L hx S hL e1
  refine ⟨h2.1, ?_⟩
  have h3 : (nextP en expr S).1.sz + (nextP en expr S).2.toks.length ≤ (atomP en expr S).1.sz + (atomP en expr S).2.toks.length := h1
  omega

theorem took_expr (en : Int) : ∀ (n : Nat) (S : St), (S.err = 0 → S.toks.length < n) → Took S (exprP en n S) := by
  intro n
  induction n with
  | zero => intro S h e; have := h e; omega
  | succ n ih =>
    intro S h
    unfold exprP
    exact took_led (n + 1) (fun S' h' => took_next n ih S' h') _ S (fun e => ⟨by omega, h e⟩)

end Go.Proofs.Ytlpoimagikolfaa.syn
