/-
  What the pure parser makes of the tokens of a chain: the chain, or the error of depth.
-/
import Derived.Test.YtlpoimagikolfaaAtom
import Derived.Test.YtlpoimagikolfaaText1
namespace Go.Proofs.Ytlpoimagikolfaa.syn
set_option linter.unusedVariables false
set_option linter.unusedSimpArgs false

abbrev Sh : Type := Int × ByteArray × Int
def shp (x : Tok) : Sh := (x.k, x.t, x.n)
def wT (t : ByteArray) : Sh := (1, t, 0)
def gT (t : ByteArray) : Sh := (3, t, 0)
def d2 : ByteArray := ⟨#[50]⟩
def d7 : ByteArray := ⟨#[55]⟩
/-- The tokens of a chain's text. -/
def sL : List Nat → List Sh
  | [] => [wT sX]
  | 0 :: l => wT sTail :: sL l
  | 1 :: l => (if pB l = true then gT lpar :: (sL l ++ [gT rpar]) else sL l) ++ [gT sOver, (2, d2, 2)]
  | _ :: l => (2, d7, 7) :: wT sFby :: sL l

theorem empty_signs : (⟨#[]⟩ : ByteArray) ∉ signs3 := by simp [signs3, sOver, sUnder, sShift]

theorem shp_cons {T : List Tok} {s : Sh} {r : List Sh} (h : T.map shp = s :: r) : ∃ a T', T = ⟨s.1, s.2.1, s.2.2, a⟩ :: T' ∧ T'.map shp = r := by
  cases T with
  | nil => cases h
  | cons x T =>
    simp only [List.map_cons, List.cons.injEq] at h
    obtain ⟨rfl, h2⟩ := h
    exact ⟨x.a, T, rfl, h2⟩

theorem cS_no {zs : List ByteArray} {t : ByteArray} (h : t ∉ zs) : Lib.containsS zs t = false := by
  cases hb : Lib.containsS zs t with
  | false => rfl
  | true => exact (h ((Lib.containsS_iff _ _).1 hb)).elim
theorem cS_yes {zs : List ByteArray} {t : ByteArray} (h : t ∈ zs) : Lib.containsS zs t = true := (Lib.containsS_iff _ _).2 h

/-- What stands behind a chain: no sign of a factor, no bracket that opens. -/
def RestOK (r : List Sh) : Prop := ∀ s r', r = s :: r' → s.2.1 ∉ signs3 ∧ s.2.1 ≠ lpar

/-- What comes of a chain: it, or the error of depth. -/
def Out (l : List Nat) (rest : List Sh) (A : PE × St) : Prop :=
  (l.length + 1 ≤ 20 → ChainP l A.1 ∧ A.2.toks.map shp = rest ∧ A.2.err = 0) ∧ (20 < l.length + 1 → A.2.toks = [] ∧ A.2.err = 2)

theorem chain_ht {l : List Nat} {e : PE} (h : ChainP l e) : e.args.ht = l.length := by
  induction h with
  | nil a => rfl
  | cons a ho h ih => rename_i o l e; show max (e.args.ht + 1) 0 = _; rw [ih]; simp

theorem out_whole {o : Nat} {l : List Nat} {rest : List Sh} {X : PE × St} (ho : o < 3) (h : Out l rest X) (a : Int) :
    Out (o :: l) rest (⟨kOf o, ⟨#[]⟩, nOf o, 0, X.1.one, a⟩, X.2.whole ⟨kOf o, ⟨#[]⟩, nOf o, 0, X.1.one, a⟩) := by
  unfold Out
  rw [List.length_cons]
  by_cases h1 : l.length + 1 ≤ 20
  · obtain ⟨hc, ht, he⟩ := h.1 h1
    have hh : (X.1.one).ht = l.length + 1 := by show max (X.1.args.ht + 1) 0 = _; rw [chain_ht hc]; simp
    unfold St.whole
    by_cases h2 : l.length + 1 + 1 ≤ 20
    · rw [if_neg (by simp only [hh]; omega)]
      exact ⟨fun _ => ⟨.cons a ho hc, ht, he⟩, fun h => by omega⟩
    · rw [if_pos (by simp only [hh]; omega)]
      unfold St.fail
      rw [if_pos he]
      exact ⟨fun h => by omega, fun _ => ⟨rfl, rfl⟩⟩
  · obtain ⟨ht, he⟩ := h.2 (by omega)
    unfold St.whole
    rw [if_neg (by omega)]
    exact ⟨fun h => by omega, fun _ => ⟨ht, he⟩⟩

theorem empty_peek {S : St} (en : Int) (h : S.toks = []) : S.peek en = ⟨0, ⟨#[]⟩, 0, en⟩ := by unfold St.peek; rw [h]
theorem cons_peek {S : St} (en : Int) {x : Tok} {T : List Tok} (h : S.toks = x :: T) : S.peek en = x := by unfold St.peek; rw [h]
theorem next_toks {S : St} {x : Tok} {T : List Tok} (h : S.toks = x :: T) : S.next.toks = T := by unfold St.next; rw [h]; rfl

/-- A wanted sign behind a chain. -/
theorem out_want {l : List Nat} {t : ByteArray} {rest : List Sh} {X : PE × St} (en : Int) (ht : t ≠ ⟨#[]⟩) (h : Out l (gT t :: rest) X) : Out l rest (X.1, (X.2.want en [t]).2) := by
  refine ⟨fun h1 => ?_, fun h1 => ?_⟩
  · obtain ⟨hc, hT, he⟩ := h.1 h1
    obtain ⟨a, T', hT, hr⟩ := shp_cons hT
    have hs : seesP en [t] X.2 = true := by unfold seesP; rw [cons_peek en hT]; exact cS_yes (by simp [gT])
    refine ⟨hc, ?_, ?_⟩
    · show (X.2.want en [t]).2.toks.map shp = rest
      unfold St.want St.need
      rw [hs]; simp only [if_true]
      rw [next_toks hT]; exact hr
    · show (X.2.want en [t]).2.err = 0
      unfold St.want St.need
      rw [hs]; exact he
  · obtain ⟨hT, he⟩ := h.2 h1
    have hs : seesP en [t] X.2 = false := by unfold seesP; rw [empty_peek en hT]; exact cS_no (by simpa using fun e => ht e.symm)
    show (X.2.want en [t]).2.toks = [] ∧ (X.2.want en [t]).2.err = 2
    unfold St.want St.need
    rw [hs]
    simp only [Bool.false_eq_true, if_false]
    unfold St.fail
    rw [if_neg (by omega)]
    exact ⟨rfl, he⟩

theorem follow_stop {en : Int} {S : St} (hs : seesP en signs3 S = false) (q : Nat) (e : PE) : followLoop en q e S = (e, S) := by
  cases q with
  | zero => rfl
  | succ q => unfold followLoop; rw [hs]; rfl

/-- The loop of the factors ends where none stands. -/
theorem out_follow {l : List Nat} {rest : List Sh} (en : Int) (hr : RestOK rest) (q : Nat) {e : PE} {S : St} (h : Out l rest (e, S)) : followLoop en q e S = (e, S) := by
  cases q with
  | zero => rfl
  | succ q =>
    have hs : seesP en signs3 S = false := by
      unfold seesP
      by_cases h1 : l.length + 1 ≤ 20
      · obtain ⟨_, hT, _⟩ := h.1 h1
        cases rest with
        | nil =>
          have : S.toks = [] := by simpa using hT
          rw [empty_peek en this]; exact cS_no empty_signs
        | cons s r =>
          obtain ⟨a, T', hT, _⟩ := shp_cons hT
          rw [cons_peek en hT]
          exact cS_no (hr s r rfl).1
      · obtain ⟨hT, _⟩ := h.2 (by omega)
        rw [empty_peek en hT]; exact cS_no empty_signs
    unfold followLoop
    rw [hs]; rfl

/-- One factor. -/
theorem out_over {l : List Nat} {rest : List Sh} (en : Int) (q : Nat) {e : PE} {S : St} (h : Out l (gT sOver :: (2, d2, 2) :: rest) (e, S)) :
    ∃ e' S', followLoop en (q + 1) e S = followLoop en q e' S' ∧ Out (1 :: l) rest (e', S') ∧ S'.toks.length ≤ S.toks.length - 1 := by
  by_cases h1 : l.length + 1 ≤ 20
  · obtain ⟨hc, hT, he⟩ := h.1 h1
    obtain ⟨a, T', hT, hr⟩ := shp_cons hT
    obtain ⟨a2, T2, hT2, hr2⟩ := shp_cons hr
    simp only at hT he hc
    have hs : seesP en signs3 S = true := by unfold seesP; rw [cons_peek en hT]; exact cS_yes (by simp [gT, signs3])
    have hp : S.peek en = ⟨3, sOver, 0, a⟩ := cons_peek en hT
    have hn : S.next = ⟨T', S.at_, S.err⟩ := by unfold St.next; rw [hT]; rfl
    have hfac : S.factored en e = (⟨3, ⟨#[]⟩, 2, 0, e.one, a⟩, ⟨T2, S.at_, S.err⟩) := by
      subst hT2
      unfold St.factored
      rw [hp, hn]
      simp [St.number, St.num, St.need, St.peek, St.next]
    refine ⟨_, _, ?_, out_whole (o := 1) (rest := rest) (X := (e, ⟨T2, S.at_, S.err⟩)) (by omega) ⟨fun _ => ⟨hc, hr2, he⟩, fun h => by omega⟩ a, ?_⟩
    · rw [followLoop, if_pos hs, hfac]; rfl
    · have := St.whole_len ⟨kOf 1, ⟨#[]⟩, nOf 1, 0, e.one, a⟩ ⟨T2, S.at_, S.err⟩
      have hl := congrArg List.length hT
      rw [hT2] at hl
      simp only [List.length_cons] at hl
      simp only at this ⊢
      omega
  · obtain ⟨hT, he⟩ := h.2 (by omega)
    simp only at hT he
    have hs : seesP en signs3 S = false := by unfold seesP; rw [empty_peek en hT]; exact cS_no empty_signs
    refine ⟨e, S, ?_, ⟨fun h => ?_, fun _ => ⟨hT, he⟩⟩, by rw [hT]; simp⟩
    · rw [follow_stop hs, follow_stop hs]
    · simp only [List.length_cons] at h; omega

/-- What led makes of a chain. -/
def PS (en : Int) (l : List Nat) : Prop := ∀ (n m : Nat) (S : St) (rest : List Sh), RestOK rest → S.err = 0 → S.toks.map shp = sL l ++ rest → S.toks.length ≤ n → S.toks.length < m → Out l rest (ledP en (nextP en (exprP en n)) m S)
/-- What next makes of a chain that begins with a name or a bracket: the loop of the factors is left. -/
def PN (en : Int) (l : List Nat) : Prop := pB l = false → ∀ (n : Nat) (S : St) (rest : List Sh), (∀ s r', rest = s :: r' → s.2.1 ≠ lpar) → S.err = 0 → S.toks.map shp = sL l ++ rest → S.toks.length ≤ n →
  ∃ q e S', nextP en (exprP en n) S = followLoop en q e S' ∧ Out l rest (e, S') ∧ S'.toks.length < q

theorem expr_of_ps {en : Int} {l : List Nat} (h : PS en l) {n : Nat} {S : St} {rest : List Sh} (hr : RestOK rest) (he : S.err = 0) (hT : S.toks.map shp = sL l ++ rest) (hn : S.toks.length < n) : Out l rest (exprP en n S) := by
  obtain ⟨n', rfl⟩ : ∃ n', n = n' + 1 := ⟨n - 1, by omega⟩
  exact h n' _ S rest hr he hT (by omega) (by omega)

/-- Brackets around what is read. -/
theorem out_par {en : Int} {l : List Nat} {n : Nat} {S : St} {a : Int} {T : List Tok} {rest : List Sh} (hT : S.toks = ⟨3, lpar, 0, a⟩ :: T) (h : Out l (gT rpar :: rest) (exprP en n S.next)) : Out l rest (atomP en (exprP en n) S) := by
  have hs : seesP en [lpar] S = true := by unfold seesP; rw [cons_peek en hT]; exact cS_yes (by simp)
  unfold atomP
  rw [if_pos hs]
  exact out_want en (by simp [rpar]) h

theorem rest_rpar (r : List Sh) : RestOK (gT rpar :: r) := by
  intro s r' h; cases h; exact ⟨by simp [signs3, gT, rpar, sOver, sUnder, sShift], by simp [gT, rpar, lpar]⟩

theorem sL_head {l : List Nat} (h : pB l = false) : ∃ s r, sL l = s :: r ∧ (s = wT sX ∨ s = gT lpar) := by
  induction l with
  | nil => exact ⟨_, _, rfl, .inl rfl⟩
  | cons o l ih =>
    match o with
    | 0 => simp [pB] at h
    | 1 =>
      rw [sL]
      by_cases hp : pB l = true
      · rw [if_pos hp]; exact ⟨_, _, rfl, .inr rfl⟩
      · rw [if_neg hp]
        obtain ⟨s, r, e, hs⟩ := ih (by simpa using hp)
        rw [e]; exact ⟨s, _, rfl, hs⟩
    | o + 2 => simp [pB] at h

theorem out_len {l : List Nat} {rest : List Sh} {A : PE × St} (h : Out l rest A) : A.2.toks.length ≤ rest.length := by
  by_cases h1 : l.length + 1 ≤ 20
  · rw [← (h.1 h1).2.1]; simp
  · rw [(h.2 (by omega)).1]; simp

theorem pn_nil (en : Int) : PN en [] := by
  intro _ n S rest hr he hT hn
  obtain ⟨a, T, hS, hrest⟩ := shp_cons (show S.toks.map shp = wT sX :: rest from hT)
  have hp := cons_peek en hS
  have hs1 : seesP en [lpar] S = false := by unfold seesP; rw [hp]; exact cS_no (by simp [wT, sX, lpar])
  have hnm : S.name en = (⟨1, sX, 0, a⟩, S.next) := by
    unfold St.name St.need
    rw [hp]
    have : nameB 1 sX = true := by unfold nameB; rw [cS_no (by simp [wordsL, sX])]; rfl
    simp only [wT, this, if_true]
    rw [hp]; rfl
  have hnt := next_toks hS
  have hs2 : seesP en [lpar] S.next = false := by
    unfold seesP
    cases rest with
    | nil =>
      have : T = [] := by simpa using hrest
      rw [empty_peek en (by rw [hnt]; exact this)]; exact cS_no (by simp [lpar])
    | cons s r =>
      obtain ⟨a2, T2, hT2, _⟩ := shp_cons hrest
      rw [cons_peek en (by rw [hnt]; exact hT2)]; exact cS_no (by simpa using hr s r rfl)
  refine ⟨_, _, _, rfl, ?_, Nat.lt_succ_self _⟩
  have hat : atomP en (exprP en n) S = (⟨1, sX, 0, 0, .nil, a⟩, S.next) := by
    unfold atomP
    rw [if_neg (by rw [hs1]; decide), hnm]
    simp only
    rw [if_neg (by rw [hs2]; decide)]
  rw [hat]
  exact ⟨fun _ => ⟨.nil a, by rw [hnt]; exact hrest, he⟩, fun h => by simp at h⟩

theorem pn_over {en : Int} {l : List Nat} (hps : PS en l) (hpn : PN en l) : PN en (1 :: l) := by
  intro _ n S rest hr he hT hn
  rw [sL] at hT
  by_cases hp : pB l = true
  · rw [if_pos hp] at hT
    obtain ⟨a, T, hS, hrest⟩ := shp_cons (show S.toks.map shp = gT lpar :: (sL l ++ (gT rpar :: gT sOver :: (2, d2, 2) :: rest)) by rw [hT]; simp)
    have hnt := next_toks hS
    have hl := congrArg List.length hS
    simp only [List.length_cons] at hl
    have h1 : Out l (gT rpar :: gT sOver :: (2, d2, 2) :: rest) (exprP en n S.next) := expr_of_ps hps (rest_rpar _) he (by rw [hnt]; exact hrest) (by rw [hnt]; omega)
    have h2 := out_par hS h1
    obtain ⟨e', S', h3, h4, h5⟩ := out_over en (atomP en (exprP en n) S).2.toks.length h2
    by_cases h6 : (atomP en (exprP en n) S).2.toks.length = 0
    · refine ⟨(atomP en (exprP en n) S).2.toks.length + 1, _, _, rfl, ?_, Nat.lt_succ_self _⟩
      have h7 : ¬ l.length + 1 ≤ 20 := by
        intro h
        have := congrArg List.length (h2.1 h).2.1
        rw [List.length_map, h6] at this; simp at this
      obtain ⟨h8, h9⟩ := h2.2 (by omega)
      exact ⟨fun h => by simp only [List.length_cons] at h; omega, fun _ => ⟨h8, h9⟩⟩
    · have h5' : S'.toks.length ≤ (atomP en (exprP en n) S).2.toks.length - 1 := h5
      exact ⟨(atomP en (exprP en n) S).2.toks.length, e', S', h3, h4, by omega⟩
  · rw [if_neg hp] at hT
    obtain ⟨q, e, S1, h1, h2, h3⟩ := hpn (by simpa using hp) n S (gT sOver :: (2, d2, 2) :: rest) (by intro s r' h; cases h; simp [gT, sOver, lpar]) he (by rw [hT]; simp) hn
    obtain ⟨q, rfl⟩ : ∃ q', q = q' + 1 := ⟨q - 1, by omega⟩
    obtain ⟨e', S', h4, h5, h6⟩ := out_over en q h2
    by_cases h7 : S1.toks.length = 0
    · refine ⟨q + 1, e, S1, h1, ?_, h3⟩
      have h8 : ¬ l.length + 1 ≤ 20 := by
        intro h
        have := congrArg List.length (h2.1 h).2.1
        rw [List.length_map, h7] at this; simp at this
      obtain ⟨h9, h10⟩ := h2.2 (by omega)
      exact ⟨fun h => by simp only [List.length_cons] at h; omega, fun _ => ⟨h9, h10⟩⟩
    · exact ⟨q, e', S', h1.trans h4, h5, by omega⟩

theorem ps_of_pn {en : Int} {l : List Nat} (hb : pB l = false) (h : PN en l) : PS en l := by
  intro n m S rest hr he hT hn hm
  obtain ⟨m, rfl⟩ : ∃ m', m = m' + 1 := ⟨m - 1, by omega⟩
  obtain ⟨s, r, e, hs⟩ := sL_head hb
  obtain ⟨a, T, hS, _⟩ := shp_cons (show S.toks.map shp = s :: (r ++ rest) by rw [hT, e]; rfl)
  have hp := cons_peek en hS
  have h1 : seesP en [sTail] S = false := by unfold seesP; rw [hp]; exact cS_no (by rcases hs with rfl | rfl <;> simp [wT, gT, sX, lpar, sTail])
  have h2 : numB en S = false := by
    unfold numB
    rw [show seesP en [minus] S = false by unfold seesP; rw [hp]; exact cS_no (by rcases hs with rfl | rfl <;> simp [wT, gT, sX, lpar, minus])]
    rw [hp]; rcases hs with rfl | rfl <;> rfl
  rw [ledP, if_neg (by rw [h1]; decide), if_neg (by rw [h2]; decide)]
  obtain ⟨q, e, S', h3, h4, h5⟩ := h hb n S rest (fun s r' e => (hr s r' e).2) he hT hn
  rw [h3, out_follow en hr q h4]
  exact h4

theorem ps_tail {en : Int} {l : List Nat} (h : PS en l) : PS en (0 :: l) := by
  intro n m S rest hr he hT hn hm
  obtain ⟨m, rfl⟩ : ∃ m', m = m' + 1 := ⟨m - 1, by omega⟩
  obtain ⟨a, T, hS, hrest⟩ := shp_cons (show S.toks.map shp = wT sTail :: (sL l ++ rest) from hT)
  have hp := cons_peek en hS
  have h1 : seesP en [sTail] S = true := by unfold seesP; rw [hp]; exact cS_yes (by simp [wT])
  have hnt := next_toks hS
  have hl := congrArg List.length hS
  simp only [List.length_cons] at hl
  rw [ledP, if_pos h1]
  unfold ledTail
  exact out_whole (o := 0) (by omega) (h n m S.next rest hr he (by rw [hnt]; exact hrest) (by rw [hnt]; omega) (by rw [hnt]; omega)) _

theorem ps_fby {en : Int} {l : List Nat} (h : PS en l) : PS en (2 :: l) := by
  intro n m S rest hr he hT hn hm
  obtain ⟨m, rfl⟩ : ∃ m', m = m' + 1 := ⟨m - 1, by omega⟩
  obtain ⟨a, T, hS, hr1⟩ := shp_cons (show S.toks.map shp = (2, d7, 7) :: wT sFby :: (sL l ++ rest) from hT)
  obtain ⟨a2, T2, hT2, hr2⟩ := shp_cons hr1
  have hp := cons_peek en hS
  have h1 : seesP en [sTail] S = false := by unfold seesP; rw [hp]; exact cS_no (by simp [d7, sTail])
  have h2 : numB en S = true := by unfold numB; rw [hp]; rfl
  have hl := congrArg List.length hS
  rw [hT2] at hl
  simp only [List.length_cons] at hl
  have hn1 : S.next = ⟨T, S.at_, S.err⟩ := by unfold St.next; rw [hS]; rfl
  have hsg : S.signed en = (7, S.next) := by
    unfold St.signed
    rw [show seesP en [minus] S = false by unfold seesP; rw [hp]; exact cS_no (by simp [d7, minus])]
    simp only [Bool.false_eq_true, if_false]
    unfold St.num St.need
    rw [hp]; simp [hp]
  have hnt := next_toks hS
  have hp2 : S.next.peek en = ⟨1, sFby, 0, a2⟩ := cons_peek en (by rw [hnt]; exact hT2)
  have hw : S.next.want en [sFby, sCons] = (⟨1, sFby, 0, a2⟩, S.next.next) := by
    unfold St.want St.need
    rw [show seesP en [sFby, sCons] S.next = true by unfold seesP; rw [hp2]; exact cS_yes (by simp)]
    simp only [if_true, hp2]
  have hnn : S.next.next.toks = T2 := next_toks (by rw [hnt]; exact hT2)
  rw [ledP, if_neg (by rw [h1]; decide), if_pos h2, hsg]
  simp only
  rw [hw]
  simp only
  rw [show ledKind sFby = 6 by unfold ledKind; rw [if_pos rfl]]
  unfold ledNum
  exact out_whole (o := 2) (by omega) (h n m S.next.next rest hr he (by rw [hnn]; exact hr2) (by rw [hnn]; omega) (by rw [hnn]; omega)) _

theorem ps_all (en : Int) : ∀ l : List Nat, (∀ o ∈ l, o < 3) → PS en l ∧ PN en l := by
  intro l
  induction l with
  | nil => intro _; exact ⟨ps_of_pn rfl (pn_nil en), pn_nil en⟩
  | cons o l ih =>
    intro h
    obtain ⟨h1, h2⟩ := ih (fun x hx => h x (by simp [hx]))
    have ho := h o (by simp)
    match o, ho with
    | 0, _ => exact ⟨ps_tail h1, fun hb => by simp [pB] at hb⟩
    | 1, _ => exact ⟨ps_of_pn rfl (pn_over h1 h2), pn_over h1 h2⟩
    | 2, _ => exact ⟨ps_fby h1, fun hb => by simp [pB] at hb⟩

/-- With so many brackets around. -/
def bL : Nat → List Sh → List Sh
  | 0, s => s
  | b + 1, s => gT lpar :: (bL b s ++ [gT rpar])
theorem ps_par (en : Int) (l : List Nat) (hl : ∀ o ∈ l, o < 3) : ∀ (b : Nat) (n : Nat) (S : St) (rest : List Sh), RestOK rest → S.err = 0 → S.toks.map shp = bL b (sL l) ++ rest → S.toks.length < n → Out l rest (exprP en n S) := by
  intro b
  induction b with
  | zero => intro n S rest hr he hT hn; exact expr_of_ps (ps_all en l hl).1 hr he hT hn
  | succ b ih =>
    intro n S rest hr he hT hn
    obtain ⟨n, rfl⟩ : ∃ n', n = n' + 1 := ⟨n - 1, by omega⟩
    obtain ⟨a, T, hS, hrest⟩ := shp_cons (show S.toks.map shp = gT lpar :: (bL b (sL l) ++ (gT rpar :: rest)) by rw [hT, bL]; simp)
    have hp := cons_peek en hS
    have hnt := next_toks hS
    have hlen := congrArg List.length hS
    simp only [List.length_cons] at hlen
    have h1 : seesP en [sTail] S = false := by unfold seesP; rw [hp]; exact cS_no (by simp [gT, lpar, sTail])
    have h2 : numB en S = false := by
      unfold numB
      rw [show seesP en [minus] S = false by unfold seesP; rw [hp]; exact cS_no (by simp [gT, lpar, minus])]
      rw [hp]; rfl
    rw [exprP, ledP, if_neg (by rw [h1]; decide), if_neg (by rw [h2]; decide)]
    have h3 := out_par hS (ih n S.next (gT rpar :: rest) (rest_rpar _) he (by rw [hnt]; exact hrest) (by rw [hnt]; omega))
    unfold nextP
    have h4 := out_follow en hr ((atomP en (exprP en n) S).2.toks.length + 1) (e := (atomP en (exprP en n) S).1) (S := (atomP en (exprP en n) S).2) h3
    rw [h4]
    exact h3

end Go.Proofs.Ytlpoimagikolfaa.syn
