/-
  The reference's Expr, of expressions that came in (written by gen-ref4c.py).
-/
import Derived.Test.YtjcmjlkihfcdcaaRef4c0
import Derived.Test.YtjcmjlkihfcdcaaRef4c1
import Derived.Test.YtjcmjlkihfcdcaaRef4c2
import Derived.Test.YtjcmjlkihfcdcaaRef4c3
namespace Go.Proofs.Ytjcmjlkihfcdcaa.syn
open Go.RowKit
set_option linter.unusedVariables false
set_option linter.unusedSimpArgs false

theorem expr_ref (e : PE) : ExprSaid e := by
  suffices h : ∀ (N : Nat) (e : PE), e.args.sz < N → ExprSaid e from h _ e (Nat.lt_succ_self _)
  intro N
  induction N with
  | zero => intro e h; omega
  | succ N ih =>
    intro e h
    by_cases hn : e.n = 0 <;> by_cases hd : e.d = 0
    · exact expr_step0 e hn hd (fun e' h' => ih e' (by omega))
    · exact expr_step1 e hn hd (fun e' h' => ih e' (by omega))
    · exact expr_step2 e hn hd (fun e' h' => ih e' (by omega))
    · exact expr_step3 e hn hd (fun e' h' => ih e' (by omega))

end Go.Proofs.Ytjcmjlkihfcdcaa.syn
