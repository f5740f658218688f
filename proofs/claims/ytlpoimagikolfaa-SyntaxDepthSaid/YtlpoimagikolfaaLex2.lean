/-
  Contracts of the package lex, two: remark, leadingSign, value, piece.
-/
import Derived.Test.YtlpoimagikolfaaLex1
namespace Go.Proofs.Ytlpoimagikolfaa.lex
open Go.RowKit
set_option linter.unusedVariables false
set_option linter.unusedSimpArgs false

/-- How many bytes there are ahead of the line's end. -/
def remL (l : List UInt8) : Nat := (l.takeWhile (fun c => c != 10)).length
theorem remL_index : ∀ (l : List UInt8), (Lib.indexByte l 10 = -1 ∧ remL l = l.length) ∨ (0 ≤ Lib.indexByte l 10 ∧ Lib.indexByte l 10 = remL l) := by
  intro l
  induction l with
  | nil => exact .inl ⟨rfl, rfl⟩
  | cons c l ih =>
    unfold Lib.indexByte remL
    by_cases hc : c = 10
    · subst hc; exact .inr ⟨by simp, by simp⟩
    · have h1 : (c == 10) = false := by simpa using hc
      have h2 : (c != 10) = true := by simpa using hc
      rw [h1]
      simp only [Bool.false_eq_true, if_false, List.takeWhile_cons, h2, if_true, List.length_cons]
      rcases ih with ⟨a, b⟩ | ⟨a, b⟩
      · left; rw [a]; unfold remL at b; exact ⟨rfl, by omega⟩
      · right
        have : (Lib.indexByte l 10 == -1) = false := by rw [beq_eq_false_iff_ne]; omega
        rw [this]; unfold remL at b; simp only [Bool.false_eq_true, if_false]; omega
theorem remL_le (l : List UInt8) : remL l ≤ l.length := by unfold remL; exact (List.takeWhile_prefix _).length_le

theorem remark_any (s : ByteArray) (w : World) : Calls Try.prog 28 #[.string s] w fun e w' => e = .returned (.int .i64 (remL s.data.toList)) ∧ w = w' := by
  have HC := Lib.hid (fun w => (Try.strings_IndexByte s 10 w).mono (fun e w' (h : e = .returned (.int .i64 (Lib.indexByte s.data.toList (10 : Int).toNat.toUInt8)) ∧ w' = w) => (⟨h.1, h.2.symm⟩ : e = .returned (.int .i64 (Lib.indexByte s.data.toList 10)) ∧ w = w')))
  rcases remL_index s.data.toList with ⟨a, b⟩ | ⟨a, b⟩
  · rw [a] at HC
    have HB := Lib.hid b
    clear a b
    go_enter Try.func28, Try.ntmps28
    go_wp2_with (go_at_call 41; with_reducible refine (HC.out _).mono ?_; rintro e w' ⟨rfl, rfl⟩)
    go_ret
    exact ⟨by rw [HB.out, Lib.size_eq]; rfl, rfl⟩
  · generalize Lib.indexByte s.data.toList 10 = q at *
    have HB := Lib.hid b
    clear b
    go_enter Try.func28, Try.ntmps28
    go_wp2_with (go_at_call 41; with_reducible refine (HC.out _).mono ?_; rintro e w' ⟨rfl, rfl⟩)
    go_ret
    exact ⟨by rw [← HB.out]; rfl, rfl⟩

/-- The sign at the beginning: kind and length. -/
def signAt (c : Int) (two : Bool) : Int × Nat :=
  if c = 126 then (if two then (3, 2) else (-1, 0))
  else if c = 61 ∨ c = 58 ∨ c = 42 ∨ c = 47 then (if two then (3, 2) else (3, 1))
  else if c = 40 ∨ c = 41 ∨ c = 123 ∨ c = 125 ∨ c = 44 ∨ c = 59 ∨ c = 43 ∨ c = 45 ∨ c = 37 ∨ c = 60 ∨ c = 63 then (3, 1)
  else (-1, 0)
/-- What the second byte has to be for the longer sign. -/
def second (c : Int) : Int := if c = 126 then 62 else if c = 61 ∨ c = 58 then c else 94
def twoB : List UInt8 → Bool
  | c :: d :: _ => (d.toNat : Int) == second c.toNat
  | _ => false
def signL (l : List UInt8) : Int × Nat := match l with | [] => (-1, 0) | c :: _ => signAt c.toNat (twoB l)

-- SIGNS (written by gen-sign.py)
theorem signL_two (s : ByteArray) (h : 1 < s.size) : signL s.data.toList = signAt s[0].toNat ((s[1].toNat : Int) == second s[0].toNat) := by
  obtain ⟨⟨l⟩⟩ := s
  match l, h with
  | c :: d :: l, _ => rfl
theorem signL_one (s : ByteArray) (h : s.size = 1) : signL s.data.toList = signAt (s[0]'(by omega)).toNat false := by
  obtain ⟨⟨l⟩⟩ := s
  match l, h with
  | [c], _ => rfl
theorem prefix_two (s : ByteArray) (h : 1 < s.size) (c0 : (s[0].toNat : Int) = 126) : Lib.hasPrefix s.data.toList [126, 62] = ((s[1].toNat : Int) == 62) := by
  obtain ⟨⟨l⟩⟩ := s
  match l, h with
  | c :: d :: l, _ =>
    have hc : c = 126 := by
      have : (c.toNat : Int) = 126 := c0
      apply UInt8.toNat_inj.1
      show c.toNat = 126
      omega
    subst hc
    show ([126, 62] : List UInt8).isPrefixOf (126 :: d :: l) = ((d.toNat : Int) == 62)
    rw [Bool.eq_iff_iff]
    simp only [List.isPrefixOf, beq_self_eq_true, Bool.true_and, Bool.and_true, beq_iff_eq]
    constructor
    · intro e; subst e; rfl
    · intro e; apply UInt8.toNat_inj.1; show 62 = d.toNat; omega
theorem prefix_one (s : ByteArray) (h : s.size = 1) : Lib.hasPrefix s.data.toList [126, 62] = false := by
  obtain ⟨⟨l⟩⟩ := s
  match l, h with
  | [c], _ => simp [Lib.hasPrefix, List.isPrefixOf]

def signV (r : Int × Nat) : Value := .tuple #[.int .i64 r.1, .int .i64 r.2]
theorem tilde_yes (s : ByteArray) (w : World) (h0 : 0 < s.size) (hc : (s[0].toNat : Int) = 126) (hp : Lib.hasPrefix s.data.toList [126, 62] = true) : Calls Try.prog 33 #[.string s] w fun e w' => e = .returned (.tuple #[.int .i64 (3), .int .i64 2]) ∧ w = w' := by
  have HP := Lib.hid (fun w => (Try.strings_HasPrefix s ⟨#[126, 62]⟩ w).mono (fun e w' (h : e = .returned (.bool (Lib.hasPrefix s.data.toList [126, 62])) ∧ w' = w) => (⟨h.1, h.2.symm⟩ : e = .returned (.bool (Lib.hasPrefix s.data.toList [126, 62])) ∧ w = w')))
  rw [hp] at HP
  clear hp
  go_enter Try.func33, Try.ntmps33
  go_wp2_with (go_at_call 42; with_reducible refine (HP.out _).mono ?_; rintro e w' ⟨rfl, rfl⟩)
  go_ret2
  exact ⟨rfl, rfl⟩
theorem tilde_no (s : ByteArray) (w : World) (h0 : 0 < s.size) (hc : (s[0].toNat : Int) = 126) (hp : Lib.hasPrefix s.data.toList [126, 62] = false) : Calls Try.prog 33 #[.string s] w fun e w' => e = .returned (.tuple #[.int .i64 (-1), .int .i64 0]) ∧ w = w' := by
  have HP := Lib.hid (fun w => (Try.strings_HasPrefix s ⟨#[126, 62]⟩ w).mono (fun e w' (h : e = .returned (.bool (Lib.hasPrefix s.data.toList [126, 62])) ∧ w' = w) => (⟨h.1, h.2.symm⟩ : e = .returned (.bool (Lib.hasPrefix s.data.toList [126, 62])) ∧ w = w')))
  rw [hp] at HP
  clear hp
  go_enter Try.func33, Try.ntmps33
  go_wp2_with (go_at_call 42; with_reducible refine (HP.out _).mono ?_; rintro e w' ⟨rfl, rfl⟩)
  go_ret2
  exact ⟨rfl, rfl⟩
theorem two61_yes (s : ByteArray) (w : World) (h0 : 0 < s.size) (hc : (s[0].toNat : Int) = 61) (h1 : 1 < s.size) (hd : (s[1].toNat : Int) = 61) : Calls Try.prog 33 #[.string s] w fun e w' => e = .returned (.tuple #[.int .i64 (3), .int .i64 2]) ∧ w = w' := by
  go_enter Try.func33, Try.ntmps33
  go_wp2
  go_ret2
  exact ⟨rfl, rfl⟩
theorem two61_no (s : ByteArray) (w : World) (h0 : 0 < s.size) (hc : (s[0].toNat : Int) = 61) (h1 : 1 < s.size) (hd : ((s[1].toNat : Int) == 61) = false) : Calls Try.prog 33 #[.string s] w fun e w' => e = .returned (.tuple #[.int .i64 (3), .int .i64 1]) ∧ w = w' := by
  go_enter Try.func33, Try.ntmps33
  go_wp2
  go_ret2
  exact ⟨rfl, rfl⟩
theorem two61_end (s : ByteArray) (w : World) (h0 : 0 < s.size) (hc : (s[0].toNat : Int) = 61) (h1 : s.size = 1) : Calls Try.prog 33 #[.string s] w fun e w' => e = .returned (.tuple #[.int .i64 (3), .int .i64 1]) ∧ w = w' := by
  have h2 : s.size ≤ 1 := by omega
  clear h1
  go_enter Try.func33, Try.ntmps33
  go_wp2
  go_ret2
  exact ⟨rfl, rfl⟩
theorem two58_yes (s : ByteArray) (w : World) (h0 : 0 < s.size) (hc : (s[0].toNat : Int) = 58) (h1 : 1 < s.size) (hd : (s[1].toNat : Int) = 58) : Calls Try.prog 33 #[.string s] w fun e w' => e = .returned (.tuple #[.int .i64 (3), .int .i64 2]) ∧ w = w' := by
  go_enter Try.func33, Try.ntmps33
  go_wp2
  go_ret2
  exact ⟨rfl, rfl⟩
theorem two58_no (s : ByteArray) (w : World) (h0 : 0 < s.size) (hc : (s[0].toNat : Int) = 58) (h1 : 1 < s.size) (hd : ((s[1].toNat : Int) == 58) = false) : Calls Try.prog 33 #[.string s] w fun e w' => e = .returned (.tuple #[.int .i64 (3), .int .i64 1]) ∧ w = w' := by
  go_enter Try.func33, Try.ntmps33
  go_wp2
  go_ret2
  exact ⟨rfl, rfl⟩
theorem two58_end (s : ByteArray) (w : World) (h0 : 0 < s.size) (hc : (s[0].toNat : Int) = 58) (h1 : s.size = 1) : Calls Try.prog 33 #[.string s] w fun e w' => e = .returned (.tuple #[.int .i64 (3), .int .i64 1]) ∧ w = w' := by
  have h2 : s.size ≤ 1 := by omega
  clear h1
  go_enter Try.func33, Try.ntmps33
  go_wp2
  go_ret2
  exact ⟨rfl, rfl⟩
theorem two42_yes (s : ByteArray) (w : World) (h0 : 0 < s.size) (hc : (s[0].toNat : Int) = 42) (h1 : 1 < s.size) (hd : (s[1].toNat : Int) = 94) : Calls Try.prog 33 #[.string s] w fun e w' => e = .returned (.tuple #[.int .i64 (3), .int .i64 2]) ∧ w = w' := by
  go_enter Try.func33, Try.ntmps33
  go_wp2
  go_ret2
  exact ⟨rfl, rfl⟩
theorem two42_no (s : ByteArray) (w : World) (h0 : 0 < s.size) (hc : (s[0].toNat : Int) = 42) (h1 : 1 < s.size) (hd : ((s[1].toNat : Int) == 94) = false) : Calls Try.prog 33 #[.string s] w fun e w' => e = .returned (.tuple #[.int .i64 (3), .int .i64 1]) ∧ w = w' := by
  go_enter Try.func33, Try.ntmps33
  go_wp2
  go_ret2
  exact ⟨rfl, rfl⟩
theorem two42_end (s : ByteArray) (w : World) (h0 : 0 < s.size) (hc : (s[0].toNat : Int) = 42) (h1 : s.size = 1) : Calls Try.prog 33 #[.string s] w fun e w' => e = .returned (.tuple #[.int .i64 (3), .int .i64 1]) ∧ w = w' := by
  have h2 : s.size ≤ 1 := by omega
  clear h1
  go_enter Try.func33, Try.ntmps33
  go_wp2
  go_ret2
  exact ⟨rfl, rfl⟩
theorem two47_yes (s : ByteArray) (w : World) (h0 : 0 < s.size) (hc : (s[0].toNat : Int) = 47) (h1 : 1 < s.size) (hd : (s[1].toNat : Int) = 94) : Calls Try.prog 33 #[.string s] w fun e w' => e = .returned (.tuple #[.int .i64 (3), .int .i64 2]) ∧ w = w' := by
  go_enter Try.func33, Try.ntmps33
  go_wp2
  go_ret2
  exact ⟨rfl, rfl⟩
theorem two47_no (s : ByteArray) (w : World) (h0 : 0 < s.size) (hc : (s[0].toNat : Int) = 47) (h1 : 1 < s.size) (hd : ((s[1].toNat : Int) == 94) = false) : Calls Try.prog 33 #[.string s] w fun e w' => e = .returned (.tuple #[.int .i64 (3), .int .i64 1]) ∧ w = w' := by
  go_enter Try.func33, Try.ntmps33
  go_wp2
  go_ret2
  exact ⟨rfl, rfl⟩
theorem two47_end (s : ByteArray) (w : World) (h0 : 0 < s.size) (hc : (s[0].toNat : Int) = 47) (h1 : s.size = 1) : Calls Try.prog 33 #[.string s] w fun e w' => e = .returned (.tuple #[.int .i64 (3), .int .i64 1]) ∧ w = w' := by
  have h2 : s.size ≤ 1 := by omega
  clear h1
  go_enter Try.func33, Try.ntmps33
  go_wp2
  go_ret2
  exact ⟨rfl, rfl⟩
theorem one40 (s : ByteArray) (w : World) (h0 : 0 < s.size) (hc : (s[0].toNat : Int) = 40) : Calls Try.prog 33 #[.string s] w fun e w' => e = .returned (.tuple #[.int .i64 (3), .int .i64 1]) ∧ w = w' := by
  go_enter Try.func33, Try.ntmps33
  go_wp2
  go_ret2
  exact ⟨rfl, rfl⟩
theorem one41 (s : ByteArray) (w : World) (h0 : 0 < s.size) (hc : (s[0].toNat : Int) = 41) : Calls Try.prog 33 #[.string s] w fun e w' => e = .returned (.tuple #[.int .i64 (3), .int .i64 1]) ∧ w = w' := by
  go_enter Try.func33, Try.ntmps33
  go_wp2
  go_ret2
  exact ⟨rfl, rfl⟩
theorem one123 (s : ByteArray) (w : World) (h0 : 0 < s.size) (hc : (s[0].toNat : Int) = 123) : Calls Try.prog 33 #[.string s] w fun e w' => e = .returned (.tuple #[.int .i64 (3), .int .i64 1]) ∧ w = w' := by
  go_enter Try.func33, Try.ntmps33
  go_wp2
  go_ret2
  exact ⟨rfl, rfl⟩
theorem one125 (s : ByteArray) (w : World) (h0 : 0 < s.size) (hc : (s[0].toNat : Int) = 125) : Calls Try.prog 33 #[.string s] w fun e w' => e = .returned (.tuple #[.int .i64 (3), .int .i64 1]) ∧ w = w' := by
  go_enter Try.func33, Try.ntmps33
  go_wp2
  go_ret2
  exact ⟨rfl, rfl⟩
theorem one44 (s : ByteArray) (w : World) (h0 : 0 < s.size) (hc : (s[0].toNat : Int) = 44) : Calls Try.prog 33 #[.string s] w fun e w' => e = .returned (.tuple #[.int .i64 (3), .int .i64 1]) ∧ w = w' := by
  go_enter Try.func33, Try.ntmps33
  go_wp2
  go_ret2
  exact ⟨rfl, rfl⟩
theorem one59 (s : ByteArray) (w : World) (h0 : 0 < s.size) (hc : (s[0].toNat : Int) = 59) : Calls Try.prog 33 #[.string s] w fun e w' => e = .returned (.tuple #[.int .i64 (3), .int .i64 1]) ∧ w = w' := by
  go_enter Try.func33, Try.ntmps33
  go_wp2
  go_ret2
  exact ⟨rfl, rfl⟩
theorem one43 (s : ByteArray) (w : World) (h0 : 0 < s.size) (hc : (s[0].toNat : Int) = 43) : Calls Try.prog 33 #[.string s] w fun e w' => e = .returned (.tuple #[.int .i64 (3), .int .i64 1]) ∧ w = w' := by
  go_enter Try.func33, Try.ntmps33
  go_wp2
  go_ret2
  exact ⟨rfl, rfl⟩
theorem one45 (s : ByteArray) (w : World) (h0 : 0 < s.size) (hc : (s[0].toNat : Int) = 45) : Calls Try.prog 33 #[.string s] w fun e w' => e = .returned (.tuple #[.int .i64 (3), .int .i64 1]) ∧ w = w' := by
  go_enter Try.func33, Try.ntmps33
  go_wp2
  go_ret2
  exact ⟨rfl, rfl⟩
theorem one37 (s : ByteArray) (w : World) (h0 : 0 < s.size) (hc : (s[0].toNat : Int) = 37) : Calls Try.prog 33 #[.string s] w fun e w' => e = .returned (.tuple #[.int .i64 (3), .int .i64 1]) ∧ w = w' := by
  go_enter Try.func33, Try.ntmps33
  go_wp2
  go_ret2
  exact ⟨rfl, rfl⟩
theorem one60 (s : ByteArray) (w : World) (h0 : 0 < s.size) (hc : (s[0].toNat : Int) = 60) : Calls Try.prog 33 #[.string s] w fun e w' => e = .returned (.tuple #[.int .i64 (3), .int .i64 1]) ∧ w = w' := by
  go_enter Try.func33, Try.ntmps33
  go_wp2
  go_ret2
  exact ⟨rfl, rfl⟩
theorem one63 (s : ByteArray) (w : World) (h0 : 0 < s.size) (hc : (s[0].toNat : Int) = 63) : Calls Try.prog 33 #[.string s] w fun e w' => e = .returned (.tuple #[.int .i64 (3), .int .i64 1]) ∧ w = w' := by
  go_enter Try.func33, Try.ntmps33
  go_wp2
  go_ret2
  exact ⟨rfl, rfl⟩
theorem none_any (s : ByteArray) (w : World) (h0 : 0 < s.size) (h126 : ((s[0].toNat : Int) == 126) = false) (h61 : ((s[0].toNat : Int) == 61) = false) (h58 : ((s[0].toNat : Int) == 58) = false) (h42 : ((s[0].toNat : Int) == 42) = false) (h47 : ((s[0].toNat : Int) == 47) = false) (h40 : ((s[0].toNat : Int) == 40) = false) (h41 : ((s[0].toNat : Int) == 41) = false) (h123 : ((s[0].toNat : Int) == 123) = false) (h125 : ((s[0].toNat : Int) == 125) = false) (h44 : ((s[0].toNat : Int) == 44) = false) (h59 : ((s[0].toNat : Int) == 59) = false) (h43 : ((s[0].toNat : Int) == 43) = false) (h45 : ((s[0].toNat : Int) == 45) = false) (h37 : ((s[0].toNat : Int) == 37) = false) (h60 : ((s[0].toNat : Int) == 60) = false) (h63 : ((s[0].toNat : Int) == 63) = false) : Calls Try.prog 33 #[.string s] w fun e w' => e = .returned (.tuple #[.int .i64 (-1), .int .i64 0]) ∧ w = w' := by
  go_enter Try.func33, Try.ntmps33
  go_wp2
  go_ret2
  exact ⟨rfl, rfl⟩

theorem leadingSign_any (s : ByteArray) (w : World) (h0 : 0 < s.size) : Calls Try.prog 33 #[.string s] w fun e w' => e = .returned (signV (signL s.data.toList)) ∧ w = w' := by
  have key : signL s.data.toList = signAt s[0].toNat (if h : 1 < s.size then (s[1].toNat : Int) == second s[0].toNat else false) := by
    by_cases h1 : 1 < s.size
    · rw [dif_pos h1]; exact signL_two s h1
    · rw [dif_neg h1]; exact signL_one s (by omega)
  rw [key]
  clear key
  by_cases c126 : (s[0].toNat : Int) = 126
  · rw [c126]
    by_cases h1 : 1 < s.size
    · rw [dif_pos h1]
      have hp := prefix_two s h1 c126
      cases hb : ((s[1].toNat : Int) == 62) with
      | true => rw [hb] at hp; rw [show signAt 126 ((s[1].toNat : Int) == second 126) = (3, 2) by rw [show second 126 = 62 from rfl, hb]; rfl]; exact tilde_yes s w h0 c126 hp
      | false => rw [hb] at hp; rw [show signAt 126 ((s[1].toNat : Int) == second 126) = (-1, 0) by rw [show second 126 = 62 from rfl, hb]; rfl]; exact tilde_no s w h0 c126 hp
    · rw [dif_neg h1]
      exact tilde_no s w h0 c126 (prefix_one s (by omega))
  by_cases c61 : (s[0].toNat : Int) = 61
  · rw [c61]
    by_cases h1 : 1 < s.size
    · rw [dif_pos h1]
      cases hb : ((s[1].toNat : Int) == 61) with
      | true => rw [show signAt 61 ((s[1].toNat : Int) == second 61) = (3, 2) by rw [show second 61 = 61 from rfl, hb]; rfl]; exact two61_yes s w h0 c61 h1 (by simpa using hb)
      | false => rw [show signAt 61 ((s[1].toNat : Int) == second 61) = (3, 1) by rw [show second 61 = 61 from rfl, hb]; rfl]; exact two61_no s w h0 c61 h1 hb
    · rw [dif_neg h1]
      exact two61_end s w h0 c61 (by omega)
  by_cases c58 : (s[0].toNat : Int) = 58
  · rw [c58]
    by_cases h1 : 1 < s.size
    · rw [dif_pos h1]
      cases hb : ((s[1].toNat : Int) == 58) with
      | true => rw [show signAt 58 ((s[1].toNat : Int) == second 58) = (3, 2) by rw [show second 58 = 58 from rfl, hb]; rfl]; exact two58_yes s w h0 c58 h1 (by simpa using hb)
      | false => rw [show signAt 58 ((s[1].toNat : Int) == second 58) = (3, 1) by rw [show second 58 = 58 from rfl, hb]; rfl]; exact two58_no s w h0 c58 h1 hb
    · rw [dif_neg h1]
      exact two58_end s w h0 c58 (by omega)
  by_cases c42 : (s[0].toNat : Int) = 42
  · rw [c42]
    by_cases h1 : 1 < s.size
    · rw [dif_pos h1]
      cases hb : ((s[1].toNat : Int) == 94) with
      | true => rw [show signAt 42 ((s[1].toNat : Int) == second 42) = (3, 2) by rw [show second 42 = 94 from rfl, hb]; rfl]; exact two42_yes s w h0 c42 h1 (by simpa using hb)
      | false => rw [show signAt 42 ((s[1].toNat : Int) == second 42) = (3, 1) by rw [show second 42 = 94 from rfl, hb]; rfl]; exact two42_no s w h0 c42 h1 hb
    · rw [dif_neg h1]
      exact two42_end s w h0 c42 (by omega)
  by_cases c47 : (s[0].toNat : Int) = 47
  · rw [c47]
    by_cases h1 : 1 < s.size
    · rw [dif_pos h1]
      cases hb : ((s[1].toNat : Int) == 94) with
      | true => rw [show signAt 47 ((s[1].toNat : Int) == second 47) = (3, 2) by rw [show second 47 = 94 from rfl, hb]; rfl]; exact two47_yes s w h0 c47 h1 (by simpa using hb)
      | false => rw [show signAt 47 ((s[1].toNat : Int) == second 47) = (3, 1) by rw [show second 47 = 94 from rfl, hb]; rfl]; exact two47_no s w h0 c47 h1 hb
    · rw [dif_neg h1]
      exact two47_end s w h0 c47 (by omega)
  by_cases c40 : (s[0].toNat : Int) = 40
  · rw [c40]; exact one40 s w h0 c40
  by_cases c41 : (s[0].toNat : Int) = 41
  · rw [c41]; exact one41 s w h0 c41
  by_cases c123 : (s[0].toNat : Int) = 123
  · rw [c123]; exact one123 s w h0 c123
  by_cases c125 : (s[0].toNat : Int) = 125
  · rw [c125]; exact one125 s w h0 c125
  by_cases c44 : (s[0].toNat : Int) = 44
  · rw [c44]; exact one44 s w h0 c44
  by_cases c59 : (s[0].toNat : Int) = 59
  · rw [c59]; exact one59 s w h0 c59
  by_cases c43 : (s[0].toNat : Int) = 43
  · rw [c43]; exact one43 s w h0 c43
  by_cases c45 : (s[0].toNat : Int) = 45
  · rw [c45]; exact one45 s w h0 c45
  by_cases c37 : (s[0].toNat : Int) = 37
  · rw [c37]; exact one37 s w h0 c37
  by_cases c60 : (s[0].toNat : Int) = 60
  · rw [c60]; exact one60 s w h0 c60
  by_cases c63 : (s[0].toNat : Int) = 63
  · rw [c63]; exact one63 s w h0 c63
  rw [show signAt s[0].toNat _ = (-1, 0) by unfold signAt; rw [if_neg c126, if_neg (by omega), if_neg (by omega)]]
  exact none_any s w h0 (beq_eq_false_iff_ne.2 c126) (beq_eq_false_iff_ne.2 c61) (beq_eq_false_iff_ne.2 c58) (beq_eq_false_iff_ne.2 c42) (beq_eq_false_iff_ne.2 c47) (beq_eq_false_iff_ne.2 c40) (beq_eq_false_iff_ne.2 c41) (beq_eq_false_iff_ne.2 c123) (beq_eq_false_iff_ne.2 c125) (beq_eq_false_iff_ne.2 c44) (beq_eq_false_iff_ne.2 c59) (beq_eq_false_iff_ne.2 c43) (beq_eq_false_iff_ne.2 c45) (beq_eq_false_iff_ne.2 c37) (beq_eq_false_iff_ne.2 c60) (beq_eq_false_iff_ne.2 c63)

end Go.Proofs.Ytlpoimagikolfaa.lex
