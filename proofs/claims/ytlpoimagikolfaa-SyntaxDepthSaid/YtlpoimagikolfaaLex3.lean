/-
  Contracts of the package lex, three: piece, value.
-/
import Derived.Test.YtlpoimagikolfaaLex2
namespace Go.Proofs.Ytlpoimagikolfaa.lex
open Go.RowKit
set_option linter.unusedVariables false
set_option linter.unusedSimpArgs false

/-- The first piece: its kind and length. -/
def pieceL (l : List UInt8) : Int × Nat := match l with
  | [] => (-1, 0)
  | c :: _ =>
    if (c.toNat : Int) = 35 then (0, remL l)
    else if (c.toNat : Int) = 32 ∨ (c.toNat : Int) = 9 ∨ (c.toNat : Int) = 10 then (0, 1)
    else if smallB c = true then (1, runL ofNameB l)
    else if digitB c = true then (2, runL digitB l)
    else signL l
theorem pieceL_eq (s : ByteArray) (h : 0 < s.size) : pieceL s.data.toList = (if (s[0].toNat : Int) = 35 then (0, remL s.data.toList)
    else if (s[0].toNat : Int) = 32 ∨ (s[0].toNat : Int) = 9 ∨ (s[0].toNat : Int) = 10 then (0, 1)
    else if smallB s[0] = true then (1, runL ofNameB s.data.toList)
    else if digitB s[0] = true then (2, runL digitB s.data.toList)
    else signL s.data.toList) := by
  obtain ⟨⟨l⟩⟩ := s
  match l, h with
  | c :: l, _ => rfl


set_option maxHeartbeats 1000000 in
theorem piece_any (s : ByteArray) (w : World) (h0 : 0 < s.size) (hs : s.size ≤ 4000) : Calls Try.prog 20 #[.string s] w fun e w' => e = .returned (signV (pieceL s.data.toList)) ∧ w = w' := by
  rw [pieceL_eq s h0]
  have HS := Lib.hid (fun w => small_any s[0] w)
  have HD := Lib.hid (fun w => digit_any s[0] w)
  have HG0 := fun w => leadingSign_any s w h0
  by_cases c35 : (s[0].toNat : Int) = 35
  · rw [if_pos c35]
    clear HG0
    go_enter Try.func20, Try.ntmps20
    go_wp2_with (first | (go_at_call 28; with_reducible refine (remark_any s _).mono ?_; rintro e w' ⟨rfl, rfl⟩) | (go_at_call 29; with_reducible refine (HS.out _).mono ?_; rintro e w' ⟨rfl, rfl⟩) | (go_at_call 32; with_reducible refine (HD.out _).mono ?_; rintro e w' ⟨rfl, rfl⟩) | (go_at_call 30; refine (run_digit s _ hs).mono ?_; rintro e w' ⟨rfl, rfl⟩) | (go_at_call 33; refine (HG.out _).mono ?_; rintro e w' ⟨rfl, rfl⟩))
    go_ret2
    exact ⟨rfl, rfl⟩
  · rw [if_neg c35]
    have n35 : ((s[0].toNat : Int) == 35) = false := beq_eq_false_iff_ne.2 c35
    clear c35
    by_cases c32 : (s[0].toNat : Int) = 32
    · rw [if_pos (.inl c32)]
      clear HG0 n35
      go_enter Try.func20, Try.ntmps20
      go_wp2_with (first | (go_at_call 28; with_reducible refine (remark_any s _).mono ?_; rintro e w' ⟨rfl, rfl⟩) | (go_at_call 29; with_reducible refine (HS.out _).mono ?_; rintro e w' ⟨rfl, rfl⟩) | (go_at_call 32; with_reducible refine (HD.out _).mono ?_; rintro e w' ⟨rfl, rfl⟩) | (go_at_call 30; refine (run_digit s _ hs).mono ?_; rintro e w' ⟨rfl, rfl⟩) | (go_at_call 33; refine (HG.out _).mono ?_; rintro e w' ⟨rfl, rfl⟩))
      go_ret2
      exact ⟨rfl, rfl⟩
    · have n32 : ((s[0].toNat : Int) == 32) = false := beq_eq_false_iff_ne.2 c32
      by_cases c9 : (s[0].toNat : Int) = 9
      · rw [if_pos (.inr (.inl c9))]
        clear HG0 n35 n32
        go_enter Try.func20, Try.ntmps20
        go_wp2_with (first | (go_at_call 28; with_reducible refine (remark_any s _).mono ?_; rintro e w' ⟨rfl, rfl⟩) | (go_at_call 29; with_reducible refine (HS.out _).mono ?_; rintro e w' ⟨rfl, rfl⟩) | (go_at_call 32; with_reducible refine (HD.out _).mono ?_; rintro e w' ⟨rfl, rfl⟩) | (go_at_call 30; refine (run_digit s _ hs).mono ?_; rintro e w' ⟨rfl, rfl⟩) | (go_at_call 33; refine (HG.out _).mono ?_; rintro e w' ⟨rfl, rfl⟩))
        go_ret2
        exact ⟨rfl, rfl⟩
      · have n9 : ((s[0].toNat : Int) == 9) = false := beq_eq_false_iff_ne.2 c9
        by_cases c10 : (s[0].toNat : Int) = 10
        · rw [if_pos (.inr (.inr c10))]
          clear HG0 n35 n32 n9
          go_enter Try.func20, Try.ntmps20
          go_wp2_with (first | (go_at_call 28; with_reducible refine (remark_any s _).mono ?_; rintro e w' ⟨rfl, rfl⟩) | (go_at_call 29; with_reducible refine (HS.out _).mono ?_; rintro e w' ⟨rfl, rfl⟩) | (go_at_call 32; with_reducible refine (HD.out _).mono ?_; rintro e w' ⟨rfl, rfl⟩) | (go_at_call 30; refine (run_digit s _ hs).mono ?_; rintro e w' ⟨rfl, rfl⟩) | (go_at_call 33; refine (HG.out _).mono ?_; rintro e w' ⟨rfl, rfl⟩))
          go_ret2
          exact ⟨rfl, rfl⟩
        · have n10 : ((s[0].toNat : Int) == 10) = false := beq_eq_false_iff_ne.2 c10
          rw [if_neg (by omega)]
          clear c32 c9 c10
          cases hsm : smallB s[0] with
          | true =>
            rw [hsm] at HS
            rw [if_pos rfl]
            clear HG0 hsm
            go_enter Try.func20, Try.ntmps20
            go_wp2_with (first | (go_at_call 28; with_reducible refine (remark_any s _).mono ?_; rintro e w' ⟨rfl, rfl⟩) | (go_at_call 29; with_reducible refine (HS.out _).mono ?_; rintro e w' ⟨rfl, rfl⟩) | (go_at_call 32; with_reducible refine (HD.out _).mono ?_; rintro e w' ⟨rfl, rfl⟩) | (go_at_call 30; refine (run_ofName s _ hs).mono ?_; rintro e w' ⟨rfl, rfl⟩) | (go_at_call 33; refine (HG.out _).mono ?_; rintro e w' ⟨rfl, rfl⟩))
            go_ret2
            exact ⟨rfl, rfl⟩
          | false =>
            rw [hsm] at HS
            rw [if_neg (by decide)]
            clear hsm
            cases hdi : digitB s[0] with
            | true =>
              rw [hdi] at HD
              rw [if_pos rfl]
              clear HG0 hdi
              go_enter Try.func20, Try.ntmps20
              go_wp2_with (first | (go_at_call 28; with_reducible refine (remark_any s _).mono ?_; rintro e w' ⟨rfl, rfl⟩) | (go_at_call 29; with_reducible refine (HS.out _).mono ?_; rintro e w' ⟨rfl, rfl⟩) | (go_at_call 32; with_reducible refine (HD.out _).mono ?_; rintro e w' ⟨rfl, rfl⟩) | (go_at_call 30; refine (run_digit s _ hs).mono ?_; rintro e w' ⟨rfl, rfl⟩) | (go_at_call 33; refine (HG.out _).mono ?_; rintro e w' ⟨rfl, rfl⟩))
              go_ret2
              exact ⟨rfl, rfl⟩
            | false =>
              rw [hdi] at HD
              rw [if_neg (by decide)]
              clear hdi
              obtain ⟨⟨k, n⟩, hkn⟩ : ∃ p : Int × Nat, signL s.data.toList = p := ⟨_, rfl⟩
              rw [hkn] at HG0 ⊢
              unfold signV at HG0
              have HG := Lib.hid HG0
              clear HG0 hkn
              go_enter Try.func20, Try.ntmps20
              go_wp2_with (first | (go_at_call 28; with_reducible refine (remark_any s _).mono ?_; rintro e w' ⟨rfl, rfl⟩) | (go_at_call 29; with_reducible refine (HS.out _).mono ?_; rintro e w' ⟨rfl, rfl⟩) | (go_at_call 32; with_reducible refine (HD.out _).mono ?_; rintro e w' ⟨rfl, rfl⟩) | (go_at_call 30; refine (run_digit s _ hs).mono ?_; rintro e w' ⟨rfl, rfl⟩) | (go_at_call 33; refine (HG.out _).mono ?_; rintro e w' ⟨rfl, rfl⟩))
              go_ret2
              exact ⟨rfl, rfl⟩

/-- The number that digits write, held down. -/
def valL (l : List UInt8) (n : Int) : Int := l.foldl (fun n d => min (n * 10 + ((d.toNat : Int) - 48)) 1000000001) n

end Go.Proofs.Ytlpoimagikolfaa.lex
