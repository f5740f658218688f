/-
  Parse of a chain's text; the law's first look.
-/
import Derived.Test.YtlpoimagikolfaaPure2
import Derived.Test.YtlpoimagikolfaaParse1
namespace Go.Proofs.Ytlpoimagikolfaa.syn
open Go.RowKit
set_option linter.unusedVariables false
set_option linter.unusedSimpArgs false

/-- No name has a bracket behind it, told by shapes. -/
def NCS : List Sh → Prop
  | [] => True
  | x :: l => (nameB x.1 x.2.1 = true → ∀ y, l.head? = some y → y.2.1 ≠ lpar) ∧ NCS l
theorem nc_of_shapes : ∀ (T : List Tok) (s : List Sh), T.map shp = s → NCS s → NC T := by
  intro T
  induction T with
  | nil => intro s _ _; trivial
  | cons x T ih =>
    intro s h hs
    subst h
    refine ⟨fun hn y hy => ?_, ih _ rfl hs.2⟩
    have := hs.1 hn (shp y) (by simp [hy])
    exact this
def NoPar (r : List Sh) : Prop := ∀ y, r.head? = some y → y.2.1 ≠ lpar
theorem ncs_g {t : ByteArray} {r : List Sh} (h : NCS r) : NCS (gT t :: r) := ⟨fun hn => by simp [gT, nameB] at hn, h⟩
theorem ncs_n {t : ByteArray} {n : Int} {r : List Sh} (h : NCS r) : NCS ((2, t, n) :: r) := ⟨fun hn => by simp [nameB] at hn, h⟩
theorem ncs_w {t : ByteArray} {r : List Sh} (ht : t ∈ wordsL) (h : NCS r) : NCS (wT t :: r) := ⟨fun hn => by unfold nameB at hn; rw [show Lib.containsS wordsL (wT t).2.1 = true from cS_yes ht] at hn; simp at hn, h⟩
theorem ncs_sL : ∀ (l : List Nat) (r : List Sh), NoPar r → NCS r → NCS (sL l ++ r) := by
  intro l
  induction l with
  | nil => intro r h1 h2; exact ⟨fun _ => h1, h2⟩
  | cons o l ih =>
    intro r h1 h2
    match o with
    | 0 => exact ncs_w (by simp [wordsL, sTail]) (ih r h1 h2)
    | 1 =>
      have h3 : NCS (gT sOver :: (2, d2, 2) :: r) := ncs_g (ncs_n h2)
      rw [sL, List.append_assoc]
      by_cases hp : pB l = true
      · rw [if_pos hp]
        have := ih (gT rpar :: gT sOver :: (2, d2, 2) :: r) (by intro y hy; cases hy; simp [gT, rpar, lpar]) (ncs_g h3)
        have h4 := ncs_g (t := lpar) this
        simpa using h4
      · rw [if_neg hp]
        exact ih _ (by intro y hy; cases hy; simp [gT, sOver, lpar]) h3
    | o + 2 => exact ncs_n (ncs_w (by simp [wordsL, sFby]) (ih r h1 h2))
theorem ncs_bL (l : List Nat) : ∀ (b : Nat) (r : List Sh), NoPar r → NCS r → NCS (bL b (sL l) ++ r) := by
  intro b
  induction b with
  | zero => exact ncs_sL l
  | succ b ih =>
    intro r h1 h2
    have := ih (gT rpar :: r) (by intro y hy; cases hy; simp [gT, rpar, lpar]) (ncs_g h2)
    have h4 := ncs_g (t := lpar) this
    rw [bL]; simpa using h4

theorem sL_len : ∀ l : List Nat, (sL l).length ≤ 4 * l.length + 1 := by
  intro l
  induction l with
  | nil => simp [sL]
  | cons o l ih =>
    rw [List.length_cons]
    match o with
    | 0 => rw [sL]; simp; omega
    | 1 => rw [sL]; split <;> simp <;> omega
    | o + 2 =>
      rw [sL]
      · simp; omega
      · simp
      · simp
theorem bL_len (s : List Sh) : ∀ b, (bL b s).length = s.length + 2 * b := by
  intro b
  induction b with
  | zero => rfl
  | succ b ih => rw [bL]; simp [ih]; omega
theorem cL_len : ∀ l : List Nat, (cL l).length ≤ 7 * l.length + 1 := by
  intro l
  have h := cT_size l
  rw [cT_cL] at h
  simpa [ByteArray.size] using h
theorem bC_len (s : List UInt8) : ∀ b, (bC b s).length = s.length + 2 * b := by
  intro b
  induction b with
  | zero => rfl
  | succ b ih => rw [bC]; simp [ih]; omega

/-- The text of a chain, with brackets. -/
def chainText (l : List Nat) (b : Nat) : ByteArray := ⟨((flowHead ++ bC b (cL l)) ++ [59]).toArray⟩

theorem parse_chain (l : List Nat) (hl : ∀ o ∈ l, o < 3) (hlen : l.length ≤ 59) (b : Nat) (hb : b ≤ 29) (w : World) :
    Calls Try.prog 9 #[.string (chainText l b)] w (fun e w' => if l.length + 1 ≤ 20 then ∃ f, ChainP l f.e ∧ ParseOK w f e w' else ∃ a, ParseNo w a 2 e w') := by
  obtain ⟨T, hT, hlex⟩ := lex_done (lex_text (lex_par (lex_chain l) b))
  have hsz : (chainText l b).size = ((flowHead ++ bC b (cL l)) ++ [59]).length := by unfold chainText; simp [ByteArray.size]
  have hdat : (chainText l b).data.toList = (flowHead ++ bC b (cL l)) ++ [59] := rfl
  have hlen1 := cL_len l
  have hlen2 := bC_len (cL l) b
  have hlen3 := sL_len l
  have hlen4 := bL_len (sL l) b
  have hs : (chainText l b).size ≤ 4000 := by rw [hsz]; simp [flowHead]; omega
  have hTl : T.length = (sL l).length + 2 * b + 4 := by
    have := congrArg List.length hT
    simp [hlen4] at this; omega
  obtain ⟨a0, T1, hT0, hT1⟩ := shp_cons (show T.map shp = wT sFlow' :: (wT sF :: gT ⟨#[61]⟩ :: (bL b (sL l) ++ [gT ⟨#[59]⟩])) by rw [hT]; simp)
  obtain ⟨a1, T2, hT1', hT2⟩ := shp_cons hT1
  obtain ⟨a2, T3, hT2', hT3⟩ := shp_cons hT2
  have hl0 := congrArg List.length hT0
  have hl1 := congrArg List.length hT1'
  simp only [List.length_cons] at hl0 hl1
  generalize hen : ((chainText l b).size : Int) = en
  have hw1 : St.want en [sNode, sInput, sFlow, sOutput] ⟨T, 0, 0⟩ = (⟨1, sFlow, 0, a0⟩, ⟨T1, 0, 0⟩) := by
    have hp : St.peek en ⟨T, 0, 0⟩ = ⟨1, sFlow, 0, a0⟩ := cons_peek en hT0
    unfold St.want St.need
    rw [show seesP en [sNode, sInput, sFlow, sOutput] ⟨T, 0, 0⟩ = true by unfold seesP; rw [hp]; exact cS_yes (by simp)]
    simp only [if_true, hp]
    rw [show St.next ⟨T, 0, 0⟩ = ⟨T1, 0, 0⟩ by unfold St.next; simp only [hT0]; rfl]
  have hq : NC T1 := by
    refine nc_of_shapes T1 _ hT1 ⟨fun _ y hy => ?_, ncs_g (ncs_bL l b _ ?_ (ncs_g trivial))⟩
    · cases hy; simp [gT, lpar]
    · intro y hy; cases hy; simp [gT, lpar]
  have hnm : St.name en ⟨T1, 0, 0⟩ = (⟨1, sF, 0, a1⟩, ⟨T2, 0, 0⟩) := by
    have hp : St.peek en ⟨T1, 0, 0⟩ = ⟨1, sF, 0, a1⟩ := cons_peek en hT1'
    unfold St.name St.need
    rw [hp]
    have : nameB 1 sF = true := by unfold nameB; rw [cS_no (by simp [wordsL, sF])]; rfl
    simp only [this, if_true]
    rw [hp, show St.next ⟨T1, 0, 0⟩ = ⟨T2, 0, 0⟩ by unfold St.next; simp only [hT1']; rfl]
  have hwe : (St.want en [sEq] ⟨T2, 0, 0⟩).2 = ⟨T3, 0, 0⟩ := by
    have hp : St.peek en ⟨T2, 0, 0⟩ = ⟨3, ⟨#[61]⟩, 0, a2⟩ := cons_peek en hT2'
    unfold St.want St.need
    rw [show seesP en [sEq] ⟨T2, 0, 0⟩ = true by unfold seesP; rw [hp]; exact cS_yes (by simp [sEq])]
    simp only [if_true]
    unfold St.next; simp only [hT2']; rfl
  have hout : Out l [gT sSemi] (exprP en 5000 ⟨T3, 0, 0⟩) :=
    ps_par en l hl b 5000 ⟨T3, 0, 0⟩ [gT sSemi] (by intro s r' h; cases h; exact ⟨by simp [gT, sSemi, signs3, sOver, sUnder, sShift], by simp [gT, sSemi, lpar]⟩) rfl hT3 (by
      have := congrArg List.length hT3
      simp [hlen4] at this
      show T3.length < 5000; omega)
  have hout2 := out_want en (by simp [sSemi]) hout
  generalize hX : exprP en 5000 ⟨T3, 0, 0⟩ = X at hout hout2
  generalize hS4 : (X.2.want en [sSemi]).2 = S4 at hout2
  have hflow : flowP en 5000 ⟨T1, 0, 0⟩ = (⟨sF, X.1, a1⟩, S4) := by
    unfold flowP
    rw [hnm]; simp only
    rw [hwe, hX, hS4]
  obtain ⟨t4, at4, e4⟩ := S4
  have ht4 : t4 = [] := by
    by_cases h1 : l.length + 1 ≤ 20
    · simpa using (hout2.1 h1).2.1
    · exact (hout2.2 (by omega)).1
  subst ht4
  have P := parse_one (chainText l b) w hs (T := T) (by rw [hsz, hdat]; exact hlex) (by rw [hT0]; simp) (by omega) (by rw [hen]; exact hw1) hq 5000 (by omega) (by show T1.length < 5000; omega) ⟨sF, X.1, a1⟩ at4 e4 (by rw [hen]; exact hflow)
  refine P.mono fun e w' h => ?_
  by_cases h1 : l.length + 1 ≤ 20
  · obtain ⟨hc, _, he⟩ := hout2.1 h1
    rw [if_pos h1]
    rw [if_pos he] at h
    exact ⟨_, hc, h⟩
  · have he := (hout2.2 (by omega)).2
    simp only at he
    rw [if_neg h1]
    rw [if_neg (by omega), he] at h
    exact ⟨_, h⟩

def awakeText : List UInt8 := [102, 108, 111, 119, 32, 102, 32, 61, 32, 51, 32, 102, 98, 121, 32, 103, 59]
def awakeToks : List Tok := [⟨1, ⟨#[102]⟩, 0, 5⟩, ⟨3, ⟨#[61]⟩, 0, 7⟩, ⟨2, ⟨#[51]⟩, 3, 9⟩, ⟨1, ⟨#[102, 98, 121]⟩, 0, 11⟩, ⟨1, ⟨#[103]⟩, 0, 15⟩, ⟨3, ⟨#[59]⟩, 0, 16⟩]
theorem awake_lex : lex.lexP 18 awakeText 0 [] = (⟨1, sFlow, 0, 0⟩ :: awakeToks, 0, 0) := by kernel_rfl
def awakeE : PE := ⟨6, ⟨#[]⟩, 3, 0, .cons 1 ⟨#[103]⟩ 0 0 .nil 15 .nil, 9⟩
theorem awake_flow : flowP 17 7 ⟨awakeToks, 0, 0⟩ = (⟨⟨#[102]⟩, awakeE, 5⟩, ⟨[], 0, 0⟩) := by kernel_rfl
theorem awake_want : St.want 17 [sNode, sInput, sFlow, sOutput] ⟨⟨1, sFlow, 0, 0⟩ :: awakeToks, 0, 0⟩ = (⟨1, sFlow, 0, 0⟩, ⟨awakeToks, 0, 0⟩) := by kernel_rfl
theorem awake_nc : NC awakeToks := by
  refine ⟨?_, ?_, ?_, ?_, ?_, ?_, trivial⟩ <;> (intro _ y hy; cases hy; try simp [lpar])

theorem awake_parse (w : World) : Calls Try.prog 9 #[.string ⟨awakeText.toArray⟩] w (ParseOK w ⟨⟨#[102]⟩, awakeE, 5⟩) := by
  have P := parse_one ⟨awakeText.toArray⟩ w (by decide) (T := ⟨1, sFlow, 0, 0⟩ :: awakeToks) awake_lex (by simp) (by decide) (k1 := 1) (n1 := 0) (a1 := 0) (S1 := ⟨awakeToks, 0, 0⟩) awake_want awake_nc 7 (by omega) (by decide) ⟨⟨#[102]⟩, awakeE, 5⟩ 0 0 awake_flow
  simp only [if_true] at P
  exact P

end Go.Proofs.Ytlpoimagikolfaa.syn
