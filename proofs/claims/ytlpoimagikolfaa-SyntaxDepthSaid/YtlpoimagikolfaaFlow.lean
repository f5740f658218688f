/-
  Contracts of expr (for texts in which no name has a bracket behind it) and of flow.
-/
import Derived.Test.YtlpoimagikolfaaExpr2
namespace Go.Proofs.Ytlpoimagikolfaa.syn
open Go.RowKit
set_option linter.unusedVariables false
set_option linter.unusedSimpArgs false

theorem expr_any (hD : DepthSaid) {r : Nat} {en : Int} {Q : List Tok → Prop} (kq : Kept Q) (hC : ∀ n, CallSaid r en Q n) : ∀ n w S, n ≤ 100000 → Rd w r en S → S.toks.length < n → Q S.toks →
    Calls Try.prog 51 #[.pointer (some ⟨r, 0, none⟩)] w (TreeAns w r en (exprP en n S)) := by
  intro n
  induction n with
  | zero => intro w S _ _ h _; omega
  | succ n ih => intro w S hn hR hl hQ; exact expr_step hD kq n (by omega) (hC n) (fun w S => ih w S (by omega)) hR hl hQ

/-- No name has a bracket behind it. -/
def NC : List Tok → Prop
  | [] => True
  | x :: l => (nameB x.k x.t = true → ∀ y, l.head? = some y → y.t ≠ lpar) ∧ NC l
theorem nc_kept : Kept NC := ⟨trivial, fun l h => by cases l with | nil => trivial | cons x l => exact h.2⟩
theorem nc_call {en : Int} {S : St} (h : NC S.toks) : seesP en [lpar] (S.name en).2 = false := by
  cases hb : seesP en [lpar] (S.name en).2 with
  | false => rfl
  | true =>
    exfalso
    have h1 := sees_some hb (by simp [lpar])
    have ht := (Lib.containsS_iff _ _).1 (show Lib.containsS [lpar] ((S.name en).2.peek en).t = true from hb)
    rw [List.mem_singleton] at ht
    unfold St.name St.need at h1 ht
    simp only at h1 ht
    cases hn : nameB (S.peek en).k (S.peek en).t with
    | false =>
      rw [hn] at h1
      simp only [Bool.false_eq_true, if_false] at h1
      rw [St.next_len, St.fail_len] at h1
      omega
    | true =>
      rw [hn] at h1 ht
      simp only [if_true] at h1 ht
      cases hS : S.toks with
      | nil => rw [St.next_len, hS] at h1; simp at h1
      | cons x l =>
        have hp : S.peek en = x := by unfold St.peek; rw [hS]
        rw [hp] at hn
        rw [hS] at h
        have hl : S.next.toks = l := by unfold St.next; rw [hS]; rfl
        cases l with
        | nil => rw [hl] at h1; simp at h1
        | cons y l =>
          have : S.next.peek en = y := by unfold St.peek; rw [hl]
          rw [this] at ht
          exact h.1 hn y rfl ht

theorem nc_said (r : Nat) (en : Int) (n : Nat) : CallSaid r en NC n := by
  intro w S hR hQ _ _ _ hs
  rw [nc_call hQ] at hs; cases hs

def sEq : ByteArray := ⟨#[61]⟩
def sSemi : ByteArray := ⟨#[59]⟩
/-- A flow: its name, its expression, its place. -/
structure PF where
  nm : ByteArray
  e : PE
  a : Int
def flowP (en : Int) (n : Nat) (S : St) : PF × St :=
  (⟨(S.name en).1.t, (exprP en n ((S.name en).2.want en [sEq]).2).1, (S.name en).1.a⟩, ((exprP en n ((S.name en).2.want en [sEq]).2).2.want en [sSemi]).2)

def FlowAns (w : World) (r : Nat) (en : Int) (A : PF × St) (e : Ending) (w' : World) : Prop :=
  (∃ ad cap, e = .returned (.agg #[.string A.1.nm, .int .i64 A.1.e.k, .string A.1.e.nm, .int .i64 A.1.e.n, .int .i64 A.1.e.d, .slice ad A.1.e.args.len cap, .int .i64 A.1.e.a, .int .i64 A.1.a]) ∧ A.1.e.args.len ≤ cap ∧ SlA w' (fun b => w.heap.size ≤ b) A.1.e.args ad) ∧
    Rd w' r en A.2 ∧ Upon r w w'

theorem cells8 {w : World} {b : Nat} {v0 v1 v2 v3 v4 v5 v6 v7 : Value} {t : TypeId} (h : w.heap[b]? = some (.cells #[v0, v1, v2, v3, v4, v5, v6, v7] t (0, 0))) :
    (w.cell? ⟨b, 0, none⟩ = some v0 ∧ w.cell? ⟨b, 1, none⟩ = some v1 ∧ w.cell? ⟨b, 2, none⟩ = some v2 ∧ w.cell? ⟨b, 3, none⟩ = some v3 ∧ w.cell? ⟨b, 4, none⟩ = some v4 ∧ w.cell? ⟨b, 5, none⟩ = some v5 ∧ w.cell? ⟨b, 6, none⟩ = some v6 ∧ w.cell? ⟨b, 7, none⟩ = some v7) ∧ ∀ o, w.frozen? ⟨b, o, none⟩ = false := by
  refine ⟨⟨?_, ?_, ?_, ?_, ?_, ?_, ?_, ?_⟩, ?_⟩
  all_goals first | (intro o; simp [World.frozen?, h]) | simp [World.cell?, h]

end Go.Proofs.Ytlpoimagikolfaa.syn
