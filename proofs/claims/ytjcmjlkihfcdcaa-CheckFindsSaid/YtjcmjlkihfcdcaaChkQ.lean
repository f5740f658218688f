/-
  Pure: what is told hangs on the names that stand there alone.
-/
import Derived.Test.YtjcmjlkihfcdcaaChkP
namespace Go.Proofs.Ytjcmjlkihfcdcaa.syn
open Go.RowKit
set_option linter.unusedVariables false
set_option linter.unusedSimpArgs false

/-- Two ways of knowing names agree on those of a row. -/
def AgL {α : Type} (E E' : ByteArray → α) : PL → Prop
  | .nil => True
  | .cons k nm n d args a tl => (k = 1 → E nm = E' nm) ∧ AgL E E' args ∧ AgL E E' tl
theorem tell1_cong {E E' : Env} {k : Int} {nm : ByteArray} {n d a : Int} {s : TT} (h : k = 1 → E nm = E' nm) : tell1 E k nm n d a s = tell1 E' k nm n d a s := by
  unfold tell1
  by_cases hk : k = 1
  · rw [if_pos hk, if_pos hk, h hk]
  · rw [if_neg hk, if_neg hk]
theorem tellL_cong {E E' : Env} : ∀ l : PL, AgL E E' l → tellL E l = tellL E' l := by
  intro l
  induction l with
  | nil => intro _; rfl
  | cons k nm n d args a tl ih1 ih2 =>
    rintro ⟨h1, h2, h3⟩
    rw [tellL, tellL, ih1 h2, ih2 h3, tell1_cong h1]
theorem tellE_cong {E E' : Env} {e : PE} (h1 : e.k = 1 → E e.nm = E' e.nm) (h2 : AgL E E' e.args) : tellE E e = tellE E' e := by
  unfold tellE; rw [tellL_cong _ h2, tell1_cong h1]
theorem ckL_cong {E E' : Env} (c : Int × Int) : ∀ l : PL, AgL E E' l → ckL E c l = ckL E' c l := by
  intro l
  induction l with
  | nil => intro _; rfl
  | cons k nm n d args a tl ih1 ih2 =>
    rintro ⟨h1, h2, h3⟩
    rw [ckL, ckL, tellL_cong _ h2, tell1_cong h1, ih2 h3]
theorem ckA_cong {E E' : Env} : ∀ l : PL, AgL E E' l → ckA E l = ckA E' l := by
  intro l h
  cases l with
  | nil => rfl
  | cons k nm n d args a tl =>
    obtain ⟨h1, h2, h3⟩ := h
    rw [ckA, ckA, tellL_cong _ h2, tell1_cong h1]
    generalize tell1 E' k nm n d a (tellL E' args) = t
    cases t with
    | unk => exact ckL_cong _ _ h3
    | bad ab eb => rfl
    | ok p f => exact ckL_cong _ _ h3
theorem wlL_cong {E E' : Env} : ∀ l : PL, AgL E E' l → wlL E l = wlL E' l := by
  intro l
  induction l with
  | nil => intro _; rfl
  | cons k nm n d args a tl ih1 ih2 =>
    rintro ⟨h1, h2, h3⟩
    rw [wlL, wlL, ih1 h2, ih2 h3]
    unfold okE
    simp only [ckA_cong _ h2]
theorem rclk1_cong {v v' : ByteArray → Int × Int} {k : Int} {nm : ByteArray} {n d : Int} {rs : List (Option (Int × Int))} (h : k = 1 → v nm = v' nm) : rclk1 v k nm n d rs = rclk1 v' k nm n d rs := by
  unfold rclk1
  by_cases hk : k = 1
  · rw [if_pos hk, if_pos hk, h hk]
  · rw [if_neg hk, if_neg hk]
theorem rclkL_cong {v v' : ByteArray → Int × Int} : ∀ l : PL, AgL v v' l → rclkL v l = rclkL v' l := by
  intro l
  induction l with
  | nil => intro _; rfl
  | cons k nm n d args a tl ih1 ih2 =>
    rintro ⟨h1, h2, h3⟩
    rw [rclkL, rclkL, ih1 h2, ih2 h3, rclk1_cong h1]
theorem rclkE_cong {v v' : ByteArray → Int × Int} {e : PE} (h1 : e.k = 1 → v e.nm = v' e.nm) (h2 : AgL v v' e.args) : rclkE v e = rclkE v' e := by
  unfold rclkE; rw [rclkL_cong _ h2, rclk1_cong h1]

/-- All flows' calls are well just if each flow's are. -/
theorem callsOK_each (E : Env) : ∀ fs : List FL, callsOK E fs = fs.all (fun f => okE E f.e && wlL E f.e.args) := by
  intro fs
  induction fs with
  | nil => rfl
  | cons f fs ih =>
    unfold callsOK at ih ⊢
    rw [itemsF, List.all_cons, List.all_append, wlL_items, ih, List.all_cons, Bool.and_assoc]

end Go.Proofs.Ytjcmjlkihfcdcaa.syn
