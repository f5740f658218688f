/-
  The reference's Expr, of expressions that came in (written by gen-ref4c.py): what it asks.
-/
import Derived.Test.YtjcmjlkihfcdcaaRef4b
namespace Go.Proofs.Ytjcmjlkihfcdcaa.syn
open Go.RowKit
set_option linter.unusedVariables false
set_option linter.unusedSimpArgs false

/-- What Expr asks of an expression, but for its arguments. -/
def exE (k n d : Int) (nm : ByteArray) (len : Nat) : Bool :=
  if k = 1 then nameOK nm && decide (len = 0) && decide (n = 0) && decide (d = 0)
  else if k = 2 then nameOK nm && decide (1 ≤ len) && decide (len ≤ 6) && decide (n = 0) && decide (d = 0)
  else if len ≠ 1 ∨ nm ≠ ⟨#[]⟩ ∨ (d ≠ 0 ∧ k ≠ 5) then false
  else if k = 3 ∨ k = 4 then inB n 1 100
  else if k = 5 then inB n 0 100 && inB d 1 100
  else if k = 6 ∨ k = 8 then inB n (-1000000000) 1000000000
  else decide (k = 7) && decide (n = 0)
def exR : PL → Bool
  | .nil => true
  | .cons k nm n d args _ tl => (exR args && exE k n d nm args.len) && exR tl
def exprOK (e : PE) : Bool := exR e.args && exE e.k e.n e.d e.nm e.args.len
def ExprSaid (e : PE) : Prop := ∀ (w : World) (ad : Option Addr) (cap : Nat), AE w e ad cap →
  Calls Try.prog 18 #[ev e ad cap] w fun x w' => x = .returned (.bool (exprOK e)) ∧ Below w.heap.size w w'
def ExRel (w : World) (e : PE) (ad : Option Addr) (cap : Nat) (v3 : Value) (wr : World) : Prop :=
  ∃ (i : Nat) (rest : PL), v3 = .int .i64 (i : Int) ∧ Rest wr ad e.args rest i ∧ exR rest = exR e.args ∧
    wr.heap[w.heap.size]? = some (.cells #[.int .i64 e.k, .string e.nm, .int .i64 e.n, .int .i64 e.d, .slice ad e.args.len cap, .int .i64 e.a] 39 (0, 0)) ∧ Below w.heap.size w wr
theorem ne_data {nm : ByteArray} (he : nm ≠ ⟨#[]⟩) : nm.data.toList ≠ [] := by
  intro h; apply he
  obtain ⟨⟨l⟩⟩ := nm
  simp at h; subst h; rfl

theorem exE_len {k n d : Int} {nm : ByteArray} {len : Nat} (h1 : k ≠ 1) (h2 : k ≠ 2) (h : len ≠ 1) : exE k n d nm len = false := by
  unfold exE; rw [if_neg h1, if_neg h2, if_pos (Or.inl h)]
theorem exE_nm {k n d : Int} {nm : ByteArray} {len : Nat} (h1 : k ≠ 1) (h2 : k ≠ 2) (h : nm ≠ ⟨#[]⟩) : exE k n d nm len = false := by
  unfold exE; rw [if_neg h1, if_neg h2, if_pos (Or.inr (Or.inl h))]

end Go.Proofs.Ytjcmjlkihfcdcaa.syn
