/-
  What the pure lexer makes of a chain's text.
-/
import Derived.Test.YtlpoimagikolfaaPure1
import Derived.Test.YtlpoimagikolfaaLex5
namespace Go.Proofs.Ytlpoimagikolfaa.syn
open lex
set_option linter.unusedVariables false
set_option linter.unusedSimpArgs false

/-- What follows is no letter, digit or underscore. -/
def Bd (r : List UInt8) : Prop := ∀ c r', r = c :: r' → ofNameB c = false
def LexW (Q : List UInt8 → Prop) (a : List UInt8) (sa : List Sh) : Prop :=
  ∀ (m k : Nat) (acc : List Tok) (r : List UInt8), Q r → a.length ≤ m → ∃ T m', m ≤ m' + a.length ∧ T.map shp = sa ∧ lexP m (a ++ r) k acc = lexP m' r (k + a.length) (acc ++ T)

theorem LexW.app {Qa Qb : List UInt8 → Prop} {a b : List UInt8} {sa sb : List Sh} (ha : LexW Qa a sa) (hb : LexW Qb b sb) (hq : ∀ r, Qb r → Qa (b ++ r)) : LexW Qb (a ++ b) (sa ++ sb) := by
  intro m k acc r hr hm
  rw [List.length_append] at hm
  obtain ⟨T1, m1, h1, h2, h3⟩ := ha m k acc (b ++ r) (hq r hr) (by omega)
  obtain ⟨T2, m2, h4, h5, h6⟩ := hb m1 (k + a.length) (acc ++ T1) r hr (by omega)
  refine ⟨T1 ++ T2, m2, by rw [List.length_append]; omega, by rw [List.map_append, h2, h5], ?_⟩
  rw [List.append_assoc, h3, h6, List.length_append, List.append_assoc, Nat.add_assoc]
theorem LexW.weak {Q Q' : List UInt8 → Prop} {a : List UInt8} {sa : List Sh} (h : LexW Q a sa) (hq : ∀ r, Q' r → Q r) : LexW Q' a sa := fun m k acc r hr hm => h m k acc r (hq r hr) hm
def Tr : List UInt8 → Prop := fun _ => True

theorem lex_space : LexW Tr [32] [] := by
  intro m k acc r _ hm
  simp only [List.length_singleton] at hm
  obtain ⟨m, rfl⟩ : ∃ m', m = m' + 1 := ⟨m - 1, by omega⟩
  refine ⟨[], m, by simp, rfl, ?_⟩
  have hp : pieceL (32 :: r) = (0, 1) := by unfold pieceL; simp
  rw [List.singleton_append, lexP, hp]
  simp

theorem lex_sign (c : UInt8) (hc : c = 40 ∨ c = 41 ∨ c = 59) : LexW Tr [c] [gT ⟨#[c]⟩] := by
  intro m k acc r _ hm
  simp only [List.length_singleton] at hm
  obtain ⟨m, rfl⟩ : ∃ m', m = m' + 1 := ⟨m - 1, by omega⟩
  refine ⟨[⟨3, ⟨#[c]⟩, 0, k⟩], m, by simp, rfl, ?_⟩
  have hp : pieceL (c :: r) = (3, 1) := by
    unfold pieceL signL
    rcases hc with rfl | rfl | rfl <;> simp [smallB, digitB, signAt]
  rw [List.singleton_append, lexP, hp]
  simp [tokOf]

theorem lex_eq : LexW (fun r => ∃ r', r = 32 :: r') [61] [gT ⟨#[61]⟩] := by
  intro m k acc r hr hm
  simp only [List.length_singleton] at hm
  obtain ⟨r', rfl⟩ := hr
  obtain ⟨m, rfl⟩ : ∃ m', m = m' + 1 := ⟨m - 1, by omega⟩
  refine ⟨[⟨3, ⟨#[61]⟩, 0, k⟩], m, by simp, rfl, ?_⟩
  have hp : pieceL (61 :: 32 :: r') = (3, 1) := by
    unfold pieceL signL
    simp [smallB, digitB, signAt, twoB, second]
  rw [List.singleton_append, lexP, hp]
  simp [tokOf]

theorem lex_over : LexW Tr [42, 94] [gT sOver] := by
  intro m k acc r hr hm
  simp only [List.length_cons, List.length_nil] at hm
  obtain ⟨m, rfl⟩ : ∃ m', m = m' + 1 := ⟨m - 1, by omega⟩
  refine ⟨[⟨3, ⟨#[42, 94]⟩, 0, k⟩], m, by simp, rfl, ?_⟩
  have hp : pieceL (42 :: 94 :: r) = (3, 2) := by
    unfold pieceL signL
    simp [smallB, digitB, signAt, twoB, second]
  rw [show [42, 94] ++ r = 42 :: 94 :: r from rfl, lexP, hp]
  simp [tokOf]

theorem run_all {f : UInt8 → Bool} {w r : List UInt8} (hw : ∀ c ∈ w, f c = true) (hr : ∀ c r', r = c :: r' → f c = false) : runL f (w ++ r) = w.length := by
  unfold runL
  induction w with
  | nil =>
    cases r with
    | nil => rfl
    | cons c r => simp [List.takeWhile_cons, hr c r rfl]
  | cons c w ih =>
    simp only [List.cons_append, List.takeWhile_cons, hw c (by simp), if_true, List.length_cons]
    rw [ih (fun x hx => hw x (by simp [hx]))]

theorem lex_word (c : UInt8) (w : List UInt8) (hc : smallB c = true) (hw : ∀ x ∈ c :: w, ofNameB x = true) : LexW Bd (c :: w) [wT ⟨(c :: w).toArray⟩] := by
  intro m k acc r hr hm
  simp only [List.length_cons] at hm
  obtain ⟨m, rfl⟩ : ∃ m', m = m' + 1 := ⟨m - 1, by omega⟩
  refine ⟨[⟨1, ⟨(c :: w).toArray⟩, 0, k⟩], m, by simp, rfl, ?_⟩
  have hb : 97 ≤ (c.toNat : Int) := by unfold smallB at hc; simp at hc; omega
  have hp : pieceL ((c :: w) ++ r) = (1, (c :: w).length) := by
    rw [show (c :: w) ++ r = c :: (w ++ r) from rfl]
    unfold pieceL
    simp only
    rw [if_neg (by omega), if_neg (by omega), if_pos hc]
    rw [show c :: (w ++ r) = (c :: w) ++ r from rfl, run_all hw hr]
  rw [lexP, hp]
  simp [tokOf]

theorem lex_num (c : UInt8) (n : Int) (hc : digitB c = true) (hn : (c.toNat : Int) - 48 = n) (hs : ofNameB c = true) : LexW Bd [c] [(2, ⟨#[c]⟩, n)] := by
  intro m k acc r hr hm
  simp only [List.length_singleton] at hm
  obtain ⟨m, rfl⟩ : ∃ m', m = m' + 1 := ⟨m - 1, by omega⟩
  have hb : 48 ≤ (c.toNat : Int) ∧ (c.toNat : Int) ≤ 57 := by unfold digitB at hc; simp at hc; omega
  have hsm : smallB c = false := by unfold smallB; simp; omega
  have hv : valL [c] 0 = n := by unfold valL; simp; omega
  refine ⟨[⟨2, ⟨#[c]⟩, n, k⟩], m, by simp, rfl, ?_⟩
  have hr' : ∀ x r', r = x :: r' → digitB x = false := by
    intro x r' h
    have := hr x r' h
    unfold ofNameB at this
    cases hd : digitB x with
    | false => rfl
    | true => rw [hd] at this; simp at this
  have hp : pieceL ([c] ++ r) = (2, 1) := by
    rw [List.singleton_append]
    unfold pieceL
    simp only
    rw [if_neg (by omega), if_neg (by omega), if_neg (by rw [hsm]; decide), if_pos hc]
    rw [show c :: r = [c] ++ r from rfl, run_all (by simpa using hc) hr']; rfl
  rw [lexP, hp]
  simp [tokOf, hv]
  omega

/-- A chain's text, byte by byte. -/
def cL : List Nat → List UInt8
  | [] => [120]
  | 0 :: l => [116, 97, 105, 108, 32] ++ cL l
  | 1 :: l => ((if pB l = true then ([40] ++ cL l) ++ [41] else cL l) ++ [32, 42, 94, 32]) ++ [50]
  | _ :: l => ([55] ++ [32, 102, 98, 121, 32]) ++ cL l
theorem cT_cL : ∀ l : List Nat, cT l = ⟨(cL l).toArray⟩ := by
  intro l
  induction l with
  | nil => rfl
  | cons o l ih =>
    match o with
    | 0 => rw [cT, cL, ih, ← ByteArray.mk_append_mk]
    | 1 => rw [cT, cL, ih]; split <;> simp only [← ByteArray.mk_append_mk]
    | o + 2 =>
      rw [cT, cL, ih, ← ByteArray.mk_append_mk, ← ByteArray.mk_append_mk]
      all_goals simp

theorem bd_cons {c : UInt8} (h : ofNameB c = false) (r : List UInt8) : Bd (c :: r) := by intro x r' e; cases e; exact h

theorem lex_chain : ∀ l : List Nat, LexW Bd (cL l) (sL l) := by
  intro l
  induction l with
  | nil => exact lex_word 120 [] (by decide) (by decide)
  | cons o l ih =>
    match o with
    | 0 =>
      have h1 := (lex_word 116 [97, 105, 108] (by decide) (by decide)).app lex_space (fun r _ => bd_cons (by decide) _)
      exact h1.app ih (fun _ _ => trivial)
    | 1 =>
      have h0 : LexW Bd [32, 42, 94, 32, 50] [gT sOver, (2, d2, 2)] :=
        ((lex_space.app (lex_over.app lex_space (fun _ _ => trivial)) (fun _ _ => trivial)).app (lex_num 50 2 (by decide) (by decide) (by decide)) (fun _ _ => trivial))
      rw [cL, sL, List.append_assoc]
      by_cases hp : pB l = true
      · rw [if_pos hp, if_pos hp]
        have h1 := ((lex_sign 40 (by simp)).app ih (fun _ _ => trivial)).app (lex_sign 41 (by simp)) (fun r _ => bd_cons (by decide) _)
        exact (h1.app h0 (fun _ _ => trivial) : LexW Bd _ _)
      · rw [if_neg hp, if_neg hp]
        exact ih.app h0 (fun r _ => bd_cons (by decide) _)
    | o + 2 =>
      have h1 := (lex_num 55 7 (by decide) (by decide) (by decide)).app lex_space (fun r _ => bd_cons (by decide) _)
      have h2 := (h1.app (lex_word 102 [98, 121] (by decide) (by decide)) (fun _ _ => trivial)).app lex_space (fun r _ => bd_cons (by decide) _)
      exact h2.app ih (fun _ _ => trivial)

def bC : Nat → List UInt8 → List UInt8
  | 0, s => s
  | b + 1, s => ([40] ++ bC b s) ++ [41]
theorem lex_par {s : List UInt8} {sh : List Sh} (h : LexW Bd s sh) : ∀ b, LexW Bd (bC b s) (bL b sh) := by
  intro b
  induction b with
  | zero => exact h
  | succ b ih =>
    have h1 := ((lex_sign 40 (by simp)).app ih (fun _ _ => trivial)).app (lex_sign 41 (by simp)) (fun r _ => bd_cons (by decide) _)
    exact h1.weak (fun _ _ => trivial)

def flowHead : List UInt8 := [102, 108, 111, 119, 32, 102, 32, 61, 32]
def sFlow' : ByteArray := ⟨#[102, 108, 111, 119]⟩
def sF : ByteArray := ⟨#[102]⟩
theorem lex_text {s : List UInt8} {sh : List Sh} (h : LexW Bd s sh) : LexW Tr ((flowHead ++ s) ++ [59]) ((wT sFlow' :: wT sF :: gT ⟨#[61]⟩ :: sh) ++ [gT ⟨#[59]⟩]) := by
  have h1 := (lex_word 102 [108, 111, 119] (by decide) (by decide)).app lex_space (fun r _ => bd_cons (by decide) _)
  have h2 := (h1.app (lex_word 102 [] (by decide) (by decide)) (fun _ _ => trivial)).app lex_space (fun r _ => bd_cons (by decide) _)
  have h3 := (h2.app lex_eq (fun _ _ => trivial)).app lex_space (fun r _ => ⟨_, rfl⟩)
  exact (h3.app h (fun _ _ => trivial)).app (lex_sign 59 (by simp)) (fun r _ => bd_cons (by decide) _)

theorem lex_done {a : List UInt8} {sa : List Sh} (h : LexW Tr a sa) : ∃ T, T.map shp = sa ∧ lexP (a.length + 1) a 0 [] = (T, 0, 0) := by
  obtain ⟨T, m', h1, h2, h3⟩ := h (a.length + 1) 0 [] [] trivial (by omega)
  obtain ⟨m', rfl⟩ : ∃ m'', m' = m'' + 1 := ⟨m' - 1, by omega⟩
  refine ⟨T, h2, ?_⟩
  rw [List.append_nil] at h3
  rw [h3, lexP]
  simp

end Go.Proofs.Ytlpoimagikolfaa.syn
