/-
  The reference's Clock of any expression.
-/
import Derived.Test.YtjcmjlkihfcdcaaRef6k3
namespace Go.Proofs.Ytjcmjlkihfcdcaa.rclk
open Go.RowKit syn
set_option linter.unusedVariables false
set_option linter.unusedSimpArgs false

theorem clock_ref (nodes : List ND) (ins : List IN) (flows : List FL) (outs : List OU) (an ai af ao : Option Addr) (cn ci cf co : Nat) (hl2 : ins.length ≤ 1000) (hl3 : flows.length ≤ 1000) (C : List (Int × Int)) (hC : C.length ≤ 1000) :
    ∀ (m : Nat) (e : PE), e.args.sz < m → ClockSaid ⟨nodes, ins, flows, outs⟩ an ai af ao cn ci cf co C e := by
  intro m
  induction m with
  | zero => intro e h; omega
  | succ m ih =>
    intro e he
    obtain ⟨k, nm, n, d, args, a⟩ := e
    simp only at he
    by_cases hk1 : k = 1
    · subst hk1
      exact clock_name nodes ins flows outs an ai af ao cn ci cf co hl2 hl3 C hC nm n d a args
    · cases args with
      | nil =>
        intro w ad cap al cl hp hae hcl hx h1 h2 h3
        exfalso
        unfold exprOK at hx
        rw [Bool.and_eq_true] at hx
        by_cases hk2 : k = 2
        · have := exE_two hx.2 hk2; simp [PL.len] at this
        · have := exE_op hx.2 hk1 hk2; simp [PL.len] at this
      | cons k9 nm9 n9 d9 args9 a9 tl =>
        by_cases hk2 : k = 2
        · subst hk2
          exact clock_call nodes ins flows outs an ai af ao cn ci cf co C hC nm n d a k9 n9 d9 a9 nm9 args9 tl (fun e' h => ih e' (by omega))
        · exact clock_op nodes ins flows outs an ai af ao cn ci cf co C hC k ⟨hk1, hk2⟩ nm n d a k9 n9 d9 a9 nm9 args9 tl (fun e' h => ih e' (by omega))
end Go.Proofs.Ytjcmjlkihfcdcaa.rclk
