/-
  Contracts of the package lex: small, digit, ofName, run, remark.
-/
import Derived.Test.YtlpoimagikolfaaSyn
namespace Go.Proofs.Ytlpoimagikolfaa.lex
open Go.RowKit
set_option linter.unusedVariables false
set_option linter.unusedSimpArgs false

def smallB (c : UInt8) : Bool := decide (97 ≤ (c.toNat : Int)) && decide ((c.toNat : Int) ≤ 122)
def digitB (c : UInt8) : Bool := decide (48 ≤ (c.toNat : Int)) && decide ((c.toNat : Int) ≤ 57)
def ofNameB (c : UInt8) : Bool := smallB c || digitB c || ((c.toNat : Int) == 95)


theorem small_any (c : UInt8) (w : World) : Calls Try.prog 29 #[.int .u8 (c.toNat : Int)] w fun e w' => e = .returned (.bool (smallB c)) ∧ w = w' := by
  unfold smallB
  generalize (c.toNat : Int) = n
  by_cases h1 : (97 : Int) ≤ n
  · by_cases h2 : n ≤ 122
    · have E := Lib.hid (show (decide ((97 : Int) ≤ n) && decide (n ≤ 122)) = true by simp; omega)
      go_enter Try.func29, Try.ntmps29
      go_wp2
      go_ret
      exact ⟨by rw [E.out]; first | rfl | (simp; omega), rfl⟩
    · have E := Lib.hid (show (decide ((97 : Int) ≤ n) && decide (n ≤ 122)) = false by simp; omega)
      have h2' : 122 < n := by omega
      clear h2
      go_enter Try.func29, Try.ntmps29
      go_wp2
      go_ret
      exact ⟨by rw [E.out]; first | rfl | (simp; omega), rfl⟩
  · have E := Lib.hid (show (decide ((97 : Int) ≤ n) && decide (n ≤ 122)) = false by simp; omega)
    have h1' : n < 97 := by omega
    clear h1
    go_enter Try.func29, Try.ntmps29
    go_wp2
    go_ret
    exact ⟨by rw [E.out]; first | rfl | (simp; omega), rfl⟩

theorem digit_any (c : UInt8) (w : World) : Calls Try.prog 32 #[.int .u8 (c.toNat : Int)] w fun e w' => e = .returned (.bool (digitB c)) ∧ w = w' := by
  unfold digitB
  generalize (c.toNat : Int) = n
  by_cases h1 : (48 : Int) ≤ n
  · by_cases h2 : n ≤ 57
    · have E := Lib.hid (show (decide ((48 : Int) ≤ n) && decide (n ≤ 57)) = true by simp; omega)
      go_enter Try.func32, Try.ntmps32
      go_wp2
      go_ret
      exact ⟨by rw [E.out]; first | rfl | (simp; omega), rfl⟩
    · have E := Lib.hid (show (decide ((48 : Int) ≤ n) && decide (n ≤ 57)) = false by simp; omega)
      have h2' : 57 < n := by omega
      clear h2
      go_enter Try.func32, Try.ntmps32
      go_wp2
      go_ret
      exact ⟨by rw [E.out]; first | rfl | (simp; omega), rfl⟩
  · have E := Lib.hid (show (decide ((48 : Int) ≤ n) && decide (n ≤ 57)) = false by simp; omega)
    have h1' : n < 48 := by omega
    clear h1
    go_enter Try.func32, Try.ntmps32
    go_wp2
    go_ret
    exact ⟨by rw [E.out]; first | rfl | (simp; omega), rfl⟩

theorem ofName_any (c : UInt8) (w : World) : Calls Try.prog 31 #[.int .u8 (c.toNat : Int)] w fun e w' => e = .returned (.bool (ofNameB c)) ∧ w = w' := by
  have HA := Lib.hid (fun w => small_any c w)
  have HB := Lib.hid (fun w => digit_any c w)
  unfold ofNameB
  cases h1 : smallB c with
  | true =>
    rw [h1] at HA
    go_enter Try.func31, Try.ntmps31
    go_wp2_with (first | (go_at_call 29; with_reducible refine (HA.out _).mono ?_; rintro e w' ⟨rfl, rfl⟩) | (go_at_call 32; with_reducible refine (HB.out _).mono ?_; rintro e w' ⟨rfl, rfl⟩))
    go_ret
    exact ⟨by simp, rfl⟩
  | false =>
    rw [h1] at HA
    cases h2 : digitB c with
    | true =>
      rw [h2] at HB
      go_enter Try.func31, Try.ntmps31
      go_wp2_with (first | (go_at_call 29; with_reducible refine (HA.out _).mono ?_; rintro e w' ⟨rfl, rfl⟩) | (go_at_call 32; with_reducible refine (HB.out _).mono ?_; rintro e w' ⟨rfl, rfl⟩))
      go_ret
      exact ⟨by simp, rfl⟩
    | false =>
      rw [h2] at HB
      go_enter Try.func31, Try.ntmps31
      go_wp2_with (first | (go_at_call 29; with_reducible refine (HA.out _).mono ?_; rintro e w' ⟨rfl, rfl⟩) | (go_at_call 32; with_reducible refine (HB.out _).mono ?_; rintro e w' ⟨rfl, rfl⟩))
      go_ret
      exact ⟨by simp, rfl⟩

/-- How many at the beginning are of the kind. -/
def runL (f : UInt8 → Bool) (l : List UInt8) : Nat := (l.takeWhile f).length
theorem runL_at {f : UInt8 → Bool} : ∀ {l : List UInt8} {k : Nat}, (∀ j (h : j < l.length), j < k → f l[j] = true) → k ≤ l.length → (∀ h : k < l.length, f l[k] = false) → runL f l = k := by
  intro l
  induction l with
  | nil => intro k _ h _; simp at h; subst h; rfl
  | cons c l ih =>
    intro k h1 h2 h3
    cases k with
    | zero => have := h3 (by simp); simp at this; simp [runL, List.takeWhile_cons, this]
    | succ k =>
      have hc := h1 0 (by simp) (by omega)
      simp at hc
      have := ih (k := k) (fun j hj hk => h1 (j + 1) (by simpa using hj) (by omega)) (by simpa using h2) (fun h => h3 (by simpa using h))
      simp [runL, List.takeWhile_cons, hc] at this ⊢
      exact this

theorem run_ofName (s : ByteArray) (w : World) (hs : s.size ≤ 4000) : Calls Try.prog 30 #[.string s, .func (.func 31) #[] #[]] w fun e w' => e = .returned (.int .i64 (runL ofNameB s.data.toList)) ∧ w = w' := by
  go_enter Try.func30, Try.ntmps30; go_wp2; go_loop [5] (fun i => ∃ k : Nat, k ≤ s.size ∧ i = .int .i64 k ∧ Hid (∀ j (h : j < s.size), j < k → ofNameB s[j] = true)) (fun i => s.size - (intOf i).toNat)
  case atStart => exact ⟨0, by omega, rfl, fun j _ h => by omega⟩
  case round =>
    obtain ⟨k, hk, rfl, HR⟩ := hrel
    by_cases hlt : k < s.size
    · have HC := Lib.hid (fun w => ofName_any s[k] w)
      cases hf : ofNameB s[k] with
      | true =>
        rw [hf] at HC
        have HN : Hid (∀ j (h : j < s.size), j < k + 1 → ofNameB s[j] = true) := by
          intro j h hj
          by_cases e : j = k
          · subst e; exact hf
          · exact HR.out j h (by omega)
        clear hf
        go_wp2_with (go_at_call 31; with_reducible refine (HC.out _).mono ?_; rintro e w' ⟨rfl, rfl⟩)
        go_round
        case rel => exact ⟨k + 1, by omega, by go_num, HN⟩
        case measure => simp [intOf]; omega
      | false =>
        rw [hf] at HC
        have HE := Lib.hid (show runL ofNameB s.data.toList = k from runL_at (fun j h hj => HR.out j (by simpa using h) hj) (by simpa using hk) (fun h => hf))
        clear hf
        go_wp2_with (go_at_call 31; with_reducible refine (HC.out _).mono ?_; rintro e w' ⟨rfl, rfl⟩)
        go_ret
        exact ⟨by rw [HE.out]; rfl, rfl⟩
    · have HE := Lib.hid (show runL ofNameB s.data.toList = k from runL_at (fun j h hj => HR.out j (by simpa using h) hj) (by simpa using hk) (fun h => absurd (by simpa using h) hlt))
      go_wp2
      go_ret
      exact ⟨by rw [HE.out]; rfl, rfl⟩

theorem run_digit (s : ByteArray) (w : World) (hs : s.size ≤ 4000) : Calls Try.prog 30 #[.string s, .func (.func 32) #[] #[]] w fun e w' => e = .returned (.int .i64 (runL digitB s.data.toList)) ∧ w = w' := by
  go_enter Try.func30, Try.ntmps30; go_wp2; go_loop [5] (fun i => ∃ k : Nat, k ≤ s.size ∧ i = .int .i64 k ∧ Hid (∀ j (h : j < s.size), j < k → digitB s[j] = true)) (fun i => s.size - (intOf i).toNat)
  case atStart => exact ⟨0, by omega, rfl, fun j _ h => by omega⟩
  case round =>
    obtain ⟨k, hk, rfl, HR⟩ := hrel
    by_cases hlt : k < s.size
    · have HC := Lib.hid (fun w => digit_any s[k] w)
      cases hf : digitB s[k] with
      | true =>
        rw [hf] at HC
        have HN : Hid (∀ j (h : j < s.size), j < k + 1 → digitB s[j] = true) := by
          intro j h hj
          by_cases e : j = k
          · subst e; exact hf
          · exact HR.out j h (by omega)
        clear hf
        go_wp2_with (go_at_call 32; with_reducible refine (HC.out _).mono ?_; rintro e w' ⟨rfl, rfl⟩)
        go_round
        case rel => exact ⟨k + 1, by omega, by go_num, HN⟩
        case measure => simp [intOf]; omega
      | false =>
        rw [hf] at HC
        have HE := Lib.hid (show runL digitB s.data.toList = k from runL_at (fun j h hj => HR.out j (by simpa using h) hj) (by simpa using hk) (fun h => hf))
        clear hf
        go_wp2_with (go_at_call 32; with_reducible refine (HC.out _).mono ?_; rintro e w' ⟨rfl, rfl⟩)
        go_ret
        exact ⟨by rw [HE.out]; rfl, rfl⟩
    · have HE := Lib.hid (show runL digitB s.data.toList = k from runL_at (fun j h hj => HR.out j (by simpa using h) hj) (by simpa using hk) (fun h => absurd (by simpa using h) hlt))
      go_wp2
      go_ret
      exact ⟨by rw [HE.out]; rfl, rfl⟩

end Go.Proofs.Ytlpoimagikolfaa.lex
