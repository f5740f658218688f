/-
  What an EXPR is read as; contracts of led's closure and of atom.
-/
import Derived.Test.YtlpoimagikolfaaLed
namespace Go.Proofs.Ytlpoimagikolfaa.syn
open Go.RowKit
set_option linter.unusedVariables false
set_option linter.unusedSimpArgs false

def lpar : ByteArray := ⟨#[40]⟩
def rpar : ByteArray := ⟨#[41]⟩
def comma : ByteArray := ⟨#[44]⟩
def PL.snoc : PL → PE → PL
  | .nil, e => e.one
  | .cons k nm n d args a tl, e => .cons k nm n d args a (tl.snoc e)
/-- May an EXPR begin here? -/
def exprB (en : Int) (S : St) : Bool := nameB (S.peek en).k (S.peek en).t || (S.peek en).k == 2 || seesP en [minus, sTail, lpar] S
def argsLoop (en : Int) (expr : St → PE × St) : Nat → Nat → PL → St → PL × St
  | 0, _, acc, S => (acc, S)
  | m + 1, many, acc, S =>
    if many = 0 ∨ seesP en [comma] S = true then
      let S1 := if many = 0 then S else S.next
      let S2 := if many = 6 ∧ exprB en S1 = true then S1.fail (S1.peek en).a 8 else S1
      argsLoop en expr m (many + 1) (acc.snoc (expr S2).1) (expr S2).2
    else (acc, S)
def callP (en : Int) (expr : St → PE × St) (t : Tok) (S1 : St) : PE × St :=
  let S2 := (S1.want en [lpar]).2
  let L := argsLoop en expr (S2.toks.length + 2) 0 .nil S2
  (⟨2, t.t, 0, 0, L.1, t.a⟩, ((L.2.want en [rpar]).2).whole ⟨2, t.t, 0, 0, L.1, t.a⟩)
def atomP (en : Int) (expr : St → PE × St) (S : St) : PE × St :=
  if seesP en [lpar] S = true then ((expr S.next).1, ((expr S.next).2.want en [rpar]).2)
  else if seesP en [lpar] (S.name en).2 = true then callP en expr (S.name en).1 (S.name en).2
  else (⟨1, (S.name en).1.t, 0, 0, .nil, (S.name en).1.a⟩, (S.name en).2)
def nextP (en : Int) (expr : St → PE × St) (S : St) : PE × St := followLoop en ((atomP en expr S).2.toks.length + 1) (atomP en expr S).1 (atomP en expr S).2
def exprP (en : Int) : Nat → St → PE × St
  | 0, S => (PE.none, S)
  | n + 1, S => ledP en (nextP en (exprP en n)) (S.toks.length + 1) S


set_option maxRecDepth 100000 in
set_option maxHeartbeats 2000000 in
theorem led_next {w : World} {r : Nat} {en : Int} {S : St} (h : Rd w r en S) (rb nb eb nb' rb' : Nat) (hrr : r < w.heap.size) (cr : w.cell? ⟨rb, 0, none⟩ = some (.pointer (some ⟨r, 0, none⟩))) (cn : w.cell? ⟨nb, 0, none⟩ = some (.func (.func 76) #[] #[.pointer (some ⟨nb', 0, none⟩), .pointer (some ⟨rb', 0, none⟩)])) (ce : w.cell? ⟨eb, 0, none⟩ = some (.func (.func 74) #[] #[.pointer (some ⟨rb, 0, none⟩), .pointer (some ⟨nb, 0, none⟩), .pointer (some ⟨eb, 0, none⟩)])) (hq1 : rb ≠ r) (hq2 : nb ≠ r) (hq3 : eb ≠ r) (hsee : seesP en [sTail] S = false) (hnum : numB en S = false) (X : PE × St)
    (HX0 : ∀ w1, Upon r w w1 → Rd w1 r en S → Calls Try.prog 76 #[.pointer (some ⟨nb', 0, none⟩), .pointer (some ⟨rb', 0, none⟩)] w1 (TreeAns w1 r en X)) :
    Calls Try.prog 74 #[.pointer (some ⟨rb, 0, none⟩), .pointer (some ⟨nb, 0, none⟩), .pointer (some ⟨eb, 0, none⟩)] w (TreeAns w r en X) := by
  have hl1 := block_lt_of_cell cr
  have hl2 := block_lt_of_cell cn
  have hl3 := block_lt_of_cell ce
  have HR := Lib.hid h
  obtain ⟨pk, pt, pn, pa, hx⟩ : ∃ xk xt xn xa, S.peek en = ⟨xk, xt, xn, xa⟩ := ⟨_, _, _, _, rfl⟩
  have HX := Lib.hid hx
  obtain ⟨⟨xk, xnm, xn, xd, xargs, xa⟩, SX⟩ := X
  have HT := Lib.hid (show S.take en sTail = (false, S) by unfold St.take; rw [hsee]; rfl)
  have HXC := Lib.hid (fun w1 (h : Upon r w w1 ∧ Rd w1 r en S) => HX0 w1 h.1 h.2)
  have hnum' : (pk == 2) = false ∧ Lib.containsS [minus] pt = false := by
    unfold numB seesP at hnum; rw [hx] at hnum
    simpa using hnum
  have HK := Lib.hid hnum'.1
  have HMI := Lib.hid hnum'.2
  clear hx hsee HX0 h hnum hnum'
  have F := field_a pk pn pa pt
  go_enter Try.func74, Try.ntmps74
  repeat' (first | (go_at_call 54; refine (peek_at (Rd.below HR.out ?_) HX.out).mono ?_; exact (by repeat (first | (with_reducible exact Below.refl _ _) | ((with_reducible refine below_setAt ?_ ?_ _); (rotate_left; focus (first | omega | (simp; done) | (simp; omega)))) | ((with_reducible refine Below.alloc ?_ ?_ _); (rotate_left; focus (first | omega | (simp; done) | (simp; omega)))) | (with_reducible refine below_drewN ?_ _) | (with_reducible refine Below.drew ?_))); rintro e w1 ⟨rfl, hb1⟩; obtain ⟨hc_, hf_⟩ := bcell hb1; have kcw1_0 := fun o => hc_ (w.heap.size) o (by first | omega | (simp; done) | (simp; omega)); have kfw1_0 := fun o => hf_ (w.heap.size) o (by first | omega | (simp; done) | (simp; omega)); have lw1_0 : w.heap.size < w1.heap.size := Nat.lt_of_lt_of_le (by first | omega | (simp; done) | (simp; omega)) hb1.size; have mw1_0 := Nat.lt_succ_of_lt lw1_0; have qw1_0 := Nat.lt_succ_of_lt mw1_0; have mw1_0 : w.heap.size < w1.heap.size + 1 := mw1_0; have qw1_0 : w.heap.size < w1.heap.size + 1 + 1 := qw1_0; have kcw1_1 := fun o => hc_ (rb) o (by first | omega | (simp; done) | (simp; omega)); have kfw1_1 := fun o => hf_ (rb) o (by first | omega | (simp; done) | (simp; omega)); have lw1_1 : rb < w1.heap.size := Nat.lt_of_lt_of_le (by first | omega | (simp; done) | (simp; omega)) hb1.size; have mw1_1 := Nat.lt_succ_of_lt lw1_1; have qw1_1 := Nat.lt_succ_of_lt mw1_1; have mw1_1 : rb < w1.heap.size + 1 := mw1_1; have qw1_1 : rb < w1.heap.size + 1 + 1 := qw1_1; have kcw1_2 := fun o => hc_ (nb) o (by first | omega | (simp; done) | (simp; omega)); have kfw1_2 := fun o => hf_ (nb) o (by first | omega | (simp; done) | (simp; omega)); have lw1_2 : nb < w1.heap.size := Nat.lt_of_lt_of_le (by first | omega | (simp; done) | (simp; omega)) hb1.size; have mw1_2 := Nat.lt_succ_of_lt lw1_2; have qw1_2 := Nat.lt_succ_of_lt mw1_2; have mw1_2 : nb < w1.heap.size + 1 := mw1_2; have qw1_2 : nb < w1.heap.size + 1 + 1 := qw1_2; have kcw1_3 := fun o => hc_ (eb) o (by first | omega | (simp; done) | (simp; omega)); have kfw1_3 := fun o => hf_ (eb) o (by first | omega | (simp; done) | (simp; omega)); have lw1_3 : eb < w1.heap.size := Nat.lt_of_lt_of_le (by first | omega | (simp; done) | (simp; omega)) hb1.size; have mw1_3 := Nat.lt_succ_of_lt lw1_3; have qw1_3 := Nat.lt_succ_of_lt mw1_3; have mw1_3 : eb < w1.heap.size + 1 := mw1_3; have qw1_3 : eb < w1.heap.size + 1 + 1 := qw1_3; clear hc_ hf_; have nwheapsize_0 : ¬ w.heap.size = r := (by omega); have nw1heapsize_1 : ¬ w1.heap.size = r := (by omega)) | (go_at_call 57; refine (take_any (Rd.below HR.out ?_) _ HT.out).mono ?_; exact (by repeat (first | (with_reducible exact Below.refl _ _) | ((with_reducible refine below_setAt ?_ ?_ _); (rotate_left; focus (first | omega | (simp; done) | (simp; omega)))) | ((with_reducible refine Below.alloc ?_ ?_ _); (rotate_left; focus (first | omega | (simp; done) | (simp; omega)))) | (with_reducible refine below_drewN ?_ _) | (with_reducible refine Below.drew ?_) | ((with_reducible refine Below.trans ?_ (Below.mono hb1 ?_)); (rotate_left; focus (first | omega | (simp; done) | (simp; omega)))))); rintro e w2 ⟨rfl, hR2, hu2⟩; have HR2 := Lib.hid hR2; have hr2 := hR2.lt; clear hR2; obtain ⟨hc_, hf_⟩ := ucell hu2; have kcw2_0 := fun o => hc_ (w.heap.size) o (by first | omega | (simp; done) | (simp; omega)) (by omega); have kfw2_0 := fun o => hf_ (w.heap.size) o (by first | omega | (simp; done) | (simp; omega)) (by omega); have lw2_0 : w.heap.size < w2.heap.size := Nat.lt_of_lt_of_le (by first | omega | (simp; done) | (simp; omega)) hu2.size; have mw2_0 := Nat.lt_succ_of_lt lw2_0; have qw2_0 := Nat.lt_succ_of_lt mw2_0; have mw2_0 : w.heap.size < w2.heap.size + 1 := mw2_0; have qw2_0 : w.heap.size < w2.heap.size + 1 + 1 := qw2_0; have kcw2_1 := fun o => hc_ (w1.heap.size) o (by first | omega | (simp; done) | (simp; omega)) (by omega); have kfw2_1 := fun o => hf_ (w1.heap.size) o (by first | omega | (simp; done) | (simp; omega)) (by omega); have lw2_1 : w1.heap.size < w2.heap.size := Nat.lt_of_lt_of_le (by first | omega | (simp; done) | (simp; omega)) hu2.size; have mw2_1 := Nat.lt_succ_of_lt lw2_1; have qw2_1 := Nat.lt_succ_of_lt mw2_1; have mw2_1 : w1.heap.size < w2.heap.size + 1 := mw2_1; have qw2_1 : w1.heap.size < w2.heap.size + 1 + 1 := qw2_1; have kcw2_2 := fun o => hc_ (rb) o (by first | omega | (simp; done) | (simp; omega)) (by omega); have kfw2_2 := fun o => hf_ (rb) o (by first | omega | (simp; done) | (simp; omega)) (by omega); have lw2_2 : rb < w2.heap.size := Nat.lt_of_lt_of_le (by first | omega | (simp; done) | (simp; omega)) hu2.size; have mw2_2 := Nat.lt_succ_of_lt lw2_2; have qw2_2 := Nat.lt_succ_of_lt mw2_2; have mw2_2 : rb < w2.heap.size + 1 := mw2_2; have qw2_2 : rb < w2.heap.size + 1 + 1 := qw2_2; have kcw2_3 := fun o => hc_ (nb) o (by first | omega | (simp; done) | (simp; omega)) (by omega); have kfw2_3 := fun o => hf_ (nb) o (by first | omega | (simp; done) | (simp; omega)) (by omega); have lw2_3 : nb < w2.heap.size := Nat.lt_of_lt_of_le (by first | omega | (simp; done) | (simp; omega)) hu2.size; have mw2_3 := Nat.lt_succ_of_lt lw2_3; have qw2_3 := Nat.lt_succ_of_lt mw2_3; have mw2_3 : nb < w2.heap.size + 1 := mw2_3; have qw2_3 : nb < w2.heap.size + 1 + 1 := qw2_3; have kcw2_4 := fun o => hc_ (eb) o (by first | omega | (simp; done) | (simp; omega)) (by omega); have kfw2_4 := fun o => hf_ (eb) o (by first | omega | (simp; done) | (simp; omega)) (by omega); have lw2_4 : eb < w2.heap.size := Nat.lt_of_lt_of_le (by first | omega | (simp; done) | (simp; omega)) hu2.size; have mw2_4 := Nat.lt_succ_of_lt lw2_4; have qw2_4 := Nat.lt_succ_of_lt mw2_4; have mw2_4 : eb < w2.heap.size + 1 := mw2_4; have qw2_4 : eb < w2.heap.size + 1 + 1 := qw2_4; clear hc_ hf_) | (go_at_call 58; refine (seesNumber_any (Rd.below HR2.out ?_) HX.out).mono ?_; exact (by repeat (first | (with_reducible exact Below.refl _ _) | ((with_reducible refine below_setAt ?_ ?_ _); (rotate_left; focus (first | omega | (simp; done) | (simp; omega)))) | ((with_reducible refine Below.alloc ?_ ?_ _); (rotate_left; focus (first | omega | (simp; done) | (simp; omega)))) | (with_reducible refine below_drewN ?_ _) | (with_reducible refine Below.drew ?_))); rw [HK.out]; rintro e w3 ⟨rfl, hb3⟩; obtain ⟨hc_, hf_⟩ := bcell hb3; have kcw3_0 := fun o => hc_ (w.heap.size) o (by first | omega | (simp; done) | (simp; omega)); have kfw3_0 := fun o => hf_ (w.heap.size) o (by first | omega | (simp; done) | (simp; omega)); have lw3_0 : w.heap.size < w3.heap.size := Nat.lt_of_lt_of_le (by first | omega | (simp; done) | (simp; omega)) hb3.size; have mw3_0 := Nat.lt_succ_of_lt lw3_0; have qw3_0 := Nat.lt_succ_of_lt mw3_0; have mw3_0 : w.heap.size < w3.heap.size + 1 := mw3_0; have qw3_0 : w.heap.size < w3.heap.size + 1 + 1 := qw3_0; have kcw3_1 := fun o => hc_ (w1.heap.size) o (by first | omega | (simp; done) | (simp; omega)); have kfw3_1 := fun o => hf_ (w1.heap.size) o (by first | omega | (simp; done) | (simp; omega)); have lw3_1 : w1.heap.size < w3.heap.size := Nat.lt_of_lt_of_le (by first | omega | (simp; done) | (simp; omega)) hb3.size; have mw3_1 := Nat.lt_succ_of_lt lw3_1; have qw3_1 := Nat.lt_succ_of_lt mw3_1; have mw3_1 : w1.heap.size < w3.heap.size + 1 := mw3_1; have qw3_1 : w1.heap.size < w3.heap.size + 1 + 1 := qw3_1; have kcw3_2 := fun o => hc_ (rb) o (by first | omega | (simp; done) | (simp; omega)); have kfw3_2 := fun o => hf_ (rb) o (by first | omega | (simp; done) | (simp; omega)); have lw3_2 : rb < w3.heap.size := Nat.lt_of_lt_of_le (by first | omega | (simp; done) | (simp; omega)) hb3.size; have mw3_2 := Nat.lt_succ_of_lt lw3_2; have qw3_2 := Nat.lt_succ_of_lt mw3_2; have mw3_2 : rb < w3.heap.size + 1 := mw3_2; have qw3_2 : rb < w3.heap.size + 1 + 1 := qw3_2; have kcw3_3 := fun o => hc_ (nb) o (by first | omega | (simp; done) | (simp; omega)); have kfw3_3 := fun o => hf_ (nb) o (by first | omega | (simp; done) | (simp; omega)); have lw3_3 : nb < w3.heap.size := Nat.lt_of_lt_of_le (by first | omega | (simp; done) | (simp; omega)) hb3.size; have mw3_3 := Nat.lt_succ_of_lt lw3_3; have qw3_3 := Nat.lt_succ_of_lt mw3_3; have mw3_3 : nb < w3.heap.size + 1 := mw3_3; have qw3_3 : nb < w3.heap.size + 1 + 1 := qw3_3; have kcw3_4 := fun o => hc_ (eb) o (by first | omega | (simp; done) | (simp; omega)); have kfw3_4 := fun o => hf_ (eb) o (by first | omega | (simp; done) | (simp; omega)); have lw3_4 : eb < w3.heap.size := Nat.lt_of_lt_of_le (by first | omega | (simp; done) | (simp; omega)) hb3.size; have mw3_4 := Nat.lt_succ_of_lt lw3_4; have qw3_4 := Nat.lt_succ_of_lt mw3_4; have mw3_4 : eb < w3.heap.size + 1 := mw3_4; have qw3_4 : eb < w3.heap.size + 1 + 1 := qw3_4; clear hc_ hf_) | (go_at_call 44; refine (sees_any (Rd.below HR2.out ?_) HX.out _ _ _ [minus] rfl (by simp) ?_ ?_).mono ?_; exact (by repeat (first | (with_reducible exact Below.refl _ _) | ((with_reducible refine below_setAt ?_ ?_ _); (rotate_left; focus (first | omega | (simp; done) | (simp; omega)))) | ((with_reducible refine Below.alloc ?_ ?_ _); (rotate_left; focus (first | omega | (simp; done) | (simp; omega)))) | (with_reducible refine below_drewN ?_ _) | (with_reducible refine Below.drew ?_) | ((with_reducible refine Below.trans ?_ (Below.mono hb3 ?_)); (rotate_left; focus (first | omega | (simp; done) | (simp; omega)))))); (focus (first | omega | (simp; done) | (simp; omega))); exact strs1 _ _ _ (by simp); rw [HMI.out]; rintro e w4 ⟨rfl, hb4⟩; obtain ⟨hc_, hf_⟩ := bcell hb4; have kcw4_0 := fun o => hc_ (w.heap.size) o (by first | omega | (simp; done) | (simp; omega)); have kfw4_0 := fun o => hf_ (w.heap.size) o (by first | omega | (simp; done) | (simp; omega)); have lw4_0 : w.heap.size < w4.heap.size := Nat.lt_of_lt_of_le (by first | omega | (simp; done) | (simp; omega)) hb4.size; have mw4_0 := Nat.lt_succ_of_lt lw4_0; have qw4_0 := Nat.lt_succ_of_lt mw4_0; have mw4_0 : w.heap.size < w4.heap.size + 1 := mw4_0; have qw4_0 : w.heap.size < w4.heap.size + 1 + 1 := qw4_0; have kcw4_1 := fun o => hc_ (w1.heap.size) o (by first | omega | (simp; done) | (simp; omega)); have kfw4_1 := fun o => hf_ (w1.heap.size) o (by first | omega | (simp; done) | (simp; omega)); have lw4_1 : w1.heap.size < w4.heap.size := Nat.lt_of_lt_of_le (by first | omega | (simp; done) | (simp; omega)) hb4.size; have mw4_1 := Nat.lt_succ_of_lt lw4_1; have qw4_1 := Nat.lt_succ_of_lt mw4_1; have mw4_1 : w1.heap.size < w4.heap.size + 1 := mw4_1; have qw4_1 : w1.heap.size < w4.heap.size + 1 + 1 := qw4_1; have kcw4_2 := fun o => hc_ (rb) o (by first | omega | (simp; done) | (simp; omega)); have kfw4_2 := fun o => hf_ (rb) o (by first | omega | (simp; done) | (simp; omega)); have lw4_2 : rb < w4.heap.size := Nat.lt_of_lt_of_le (by first | omega | (simp; done) | (simp; omega)) hb4.size; have mw4_2 := Nat.lt_succ_of_lt lw4_2; have qw4_2 := Nat.lt_succ_of_lt mw4_2; have mw4_2 : rb < w4.heap.size + 1 := mw4_2; have qw4_2 : rb < w4.heap.size + 1 + 1 := qw4_2; have kcw4_3 := fun o => hc_ (nb) o (by first | omega | (simp; done) | (simp; omega)); have kfw4_3 := fun o => hf_ (nb) o (by first | omega | (simp; done) | (simp; omega)); have lw4_3 : nb < w4.heap.size := Nat.lt_of_lt_of_le (by first | omega | (simp; done) | (simp; omega)) hb4.size; have mw4_3 := Nat.lt_succ_of_lt lw4_3; have qw4_3 := Nat.lt_succ_of_lt mw4_3; have mw4_3 : nb < w4.heap.size + 1 := mw4_3; have qw4_3 : nb < w4.heap.size + 1 + 1 := qw4_3; have kcw4_4 := fun o => hc_ (eb) o (by first | omega | (simp; done) | (simp; omega)); have kfw4_4 := fun o => hf_ (eb) o (by first | omega | (simp; done) | (simp; omega)); have lw4_4 : eb < w4.heap.size := Nat.lt_of_lt_of_le (by first | omega | (simp; done) | (simp; omega)) hb4.size; have mw4_4 := Nat.lt_succ_of_lt lw4_4; have qw4_4 := Nat.lt_succ_of_lt mw4_4; have mw4_4 : eb < w4.heap.size + 1 := mw4_4; have qw4_4 : eb < w4.heap.size + 1 + 1 := qw4_4; clear hc_ hf_) | (go_at_call 76; refine (HXC.out _ ⟨?_, ?_⟩).mono ?_; exact (by repeat (first | (with_reducible exact Upon.refl _ _) | ((with_reducible refine Upon.setAt ?_ ?_ _); (rotate_left; focus (first | exact Or.inl rfl | omega | (simp; done) | (simp; omega)))) | (with_reducible refine Upon.alloc ?_ _) | (with_reducible refine Upon.drewN ?_ _) | (with_reducible refine Upon.drew ?_) | (with_reducible refine Upon.trans ?_ (Upon.of_below hb4)) | (with_reducible refine Upon.trans ?_ (Upon.of_below hb3)) | (with_reducible refine Upon.trans ?_ hu2) | (with_reducible refine Upon.trans ?_ (Upon.of_below hb1)))); exact (Rd.below HR2.out (by repeat (first | (with_reducible exact Below.refl _ _) | ((with_reducible refine below_setAt ?_ ?_ _); (rotate_left; focus (first | omega | (simp; done) | (simp; omega)))) | ((with_reducible refine Below.alloc ?_ ?_ _); (rotate_left; focus (first | omega | (simp; done) | (simp; omega)))) | (with_reducible refine below_drewN ?_ _) | (with_reducible refine Below.drew ?_) | ((with_reducible refine Below.trans ?_ (Below.mono hb4 ?_)); (rotate_left; focus (first | omega | (simp; done) | (simp; omega)))) | ((with_reducible refine Below.trans ?_ (Below.mono hb3 ?_)); (rotate_left; focus (first | omega | (simp; done) | (simp; omega))))))); rintro e w5 ⟨⟨ad5, cap5, rfl, hcap5, hs5⟩, hR5, hu5⟩; have HR5 := Lib.hid hR5; have HS5 := Lib.hid hs5; have hr5 := hR5.lt; clear hR5 hs5; have s5 : w4.heap.size ≤ w5.heap.size := Nat.le_trans (by first | exact Nat.le_refl _ | simp) hu5.size; obtain ⟨hc_, hf_⟩ := ucell hu5; have kcw5_0 := fun o => hc_ (w.heap.size) o (by first | omega | (simp; done) | (simp; omega)) (by omega); have kfw5_0 := fun o => hf_ (w.heap.size) o (by first | omega | (simp; done) | (simp; omega)) (by omega); have lw5_0 : w.heap.size < w5.heap.size := Nat.lt_of_lt_of_le (by first | omega | (simp; done) | (simp; omega)) hu5.size; have mw5_0 := Nat.lt_succ_of_lt lw5_0; have qw5_0 := Nat.lt_succ_of_lt mw5_0; have mw5_0 : w.heap.size < w5.heap.size + 1 := mw5_0; have qw5_0 : w.heap.size < w5.heap.size + 1 + 1 := qw5_0; have kcw5_1 := fun o => hc_ (w1.heap.size) o (by first | omega | (simp; done) | (simp; omega)) (by omega); have kfw5_1 := fun o => hf_ (w1.heap.size) o (by first | omega | (simp; done) | (simp; omega)) (by omega); have lw5_1 : w1.heap.size < w5.heap.size := Nat.lt_of_lt_of_le (by first | omega | (simp; done) | (simp; omega)) hu5.size; have mw5_1 := Nat.lt_succ_of_lt lw5_1; have qw5_1 := Nat.lt_succ_of_lt mw5_1; have mw5_1 : w1.heap.size < w5.heap.size + 1 := mw5_1; have qw5_1 : w1.heap.size < w5.heap.size + 1 + 1 := qw5_1; clear hc_ hf_) | go_values | go_skip | go_guarded | go_step | go_upon | (simp only [Int.not_lt, Int.not_le] at *; go_simp) | (go_values <;> (try go_simp)) | (go_ite <;> go_prune <;> (try go_simp)) | (split <;> (first | (rename_i hx; exact (hx _ rfl).elim) | go_prune)))
  refine bodyPost_ret (v := .agg #[.int .i64 xk, .string xnm, .int .i64 xn, .int .i64 xd, .slice ad5 xargs.len cap5, .int .i64 xa]) ?_ rfl ?_; focus (simp only [results, Try.results74]; go_simp)
  refine ⟨⟨ad5, cap5, rfl, hcap5, ?_⟩, Rd.below HR5.out (by repeat (first | (with_reducible exact Below.refl _ _) | ((with_reducible refine below_setAt ?_ ?_ _); (rotate_left; focus (first | omega | (simp; done) | (simp; omega)))) | ((with_reducible refine Below.alloc ?_ ?_ _); (rotate_left; focus (first | omega | (simp; done) | (simp; omega)))) | (with_reducible refine below_drewN ?_ _) | (with_reducible refine Below.drew ?_))), (by repeat (first | (with_reducible exact Upon.refl _ _) | ((with_reducible refine Upon.setAt ?_ ?_ _); (rotate_left; focus (first | exact Or.inl rfl | omega | (simp; done) | (simp; omega)))) | (with_reducible refine Upon.alloc ?_ _) | (with_reducible refine Upon.drewN ?_ _) | (with_reducible refine Upon.drew ?_) | (with_reducible refine Upon.trans ?_ hu5) | (with_reducible refine Upon.trans ?_ (Upon.of_below hb4)) | (with_reducible refine Upon.trans ?_ (Upon.of_below hb3)) | (with_reducible refine Upon.trans ?_ hu2) | (with_reducible refine Upon.trans ?_ (Upon.of_below hb1))))⟩
  refine SlA.mono (P := fun b => w4.heap.size ≤ b) ?_ (fun b h _ => by have h' : w4.heap.size ≤ b := h; show w.heap.size ≤ b; omega)
  refine SlA.keep (HS5.out.mono (fun b h _ => by first | exact h | (simp at h; omega))) ?_
  exact (by repeat (first | (with_reducible exact Same.refl _ _) | (with_reducible refine Same.alloc ?_ _) | (with_reducible refine Same.drewN ?_ _) | (with_reducible refine Same.drew ?_) | ((with_reducible refine Same.setCell ?_ ?_ _); focus (omega))))

theorem St.signed_len (en : Int) (S : St) (h : numB en S = true) : (S.signed en).2.toks.length + 1 ≤ S.toks.length ∧ 1 ≤ S.toks.length := by
  have h1 : 1 ≤ S.toks.length := by
    unfold numB at h
    cases hm : seesP en [minus] S with
    | true => exact sees_some hm (by simp [minus])
    | false =>
      rw [hm, Bool.or_false] at h
      cases hS : S.toks with
      | nil => unfold St.peek at h; rw [hS] at h; simp at h
      | cons x l => simp
  refine ⟨?_, h1⟩
  unfold St.signed
  split
  · have := S.next.need_len en ((S.next.peek en).k == 2)
    have hn := S.next_len
    show (S.next.need en _).2.toks.length + 1 ≤ _
    unfold St.num at *
    omega
  · have := S.need_len en ((S.peek en).k == 2)
    show (S.need en _).2.toks.length + 1 ≤ _
    omega

/-- What is kept behind tokens that are read. -/
structure Kept (Q : List Tok → Prop) : Prop where
  nil : Q []
  tail : ∀ l, Q l → Q l.tail
theorem Kept.next {Q : List Tok → Prop} (k : Kept Q) {S : St} (h : Q S.toks) : Q S.next.toks := k.tail _ h
theorem Kept.fail {Q : List Tok → Prop} (k : Kept Q) (S : St) (a e : Int) : Q (S.fail a e).toks := by unfold St.fail; split <;> exact k.nil
theorem Kept.need {Q : List Tok → Prop} (k : Kept Q) {S : St} (h : Q S.toks) (en : Int) (b : Bool) : Q (S.need en b).2.toks := by
  unfold St.need; simp only
  cases b with
  | true => exact k.next h
  | false => exact k.next (k.fail S _ _)
theorem Kept.want {Q : List Tok → Prop} (k : Kept Q) {S : St} (h : Q S.toks) (en : Int) (zs : List ByteArray) : Q (S.want en zs).2.toks := k.need h en _
theorem Kept.name {Q : List Tok → Prop} (k : Kept Q) {S : St} (h : Q S.toks) (en : Int) : Q (S.name en).2.toks := k.need h en _
theorem Kept.signed {Q : List Tok → Prop} (k : Kept Q) {S : St} (h : Q S.toks) (en : Int) : Q (S.signed en).2.toks := by
  unfold St.signed; split
  · exact k.need (k.next h) en _
  · exact k.need h en _

/-- What is read of the tokens is no larger than what was taken. -/
def Took (S : St) (A : PE × St) : Prop := Adv S A.2 A.1.sz
theorem took_tail {S : St} {en : Int} {X : PE × St} (h : seesP en [sTail] S = true) (hX : Took S.next X) : Took S (ledTail en S X) :=
  (((adv_next (toks_sees (by simp [sTail]) h)).trans hX).trans adv_whole).less (by show X.1.one.sz + 1 ≤ _; rw [PE.one_sz]; omega)
theorem took_num {S : St} {en k : Int} {X : PE × St} {S1 : St} (h1 : Adv S S1 1) (n : Int) (hX : Took S1 X) : Took S (ledNum en S k n X) :=
  ((h1.trans hX).trans adv_whole).less (by show X.1.one.sz + 1 ≤ _; rw [PE.one_sz]; omega)
theorem adv_lednum {S : St} {en : Int} : Adv S ((S.signed en).2.want en [sFby, sCons]).2 2 := adv_signed.trans (adv_want (by simp [sFby, sCons]))

theorem took_led {en : Int} {next : St → PE × St} (L : Nat) (hn : ∀ S, (S.err = 0 → S.toks.length < L) → Took S (next S)) : ∀ (m : Nat) (S : St), (S.err = 0 → S.toks.length < m ∧ S.toks.length < L) → Took S (ledP en next m S) := by
  intro m
  induction m with
  | zero => intro S h e; have := h e; omega
  | succ m ih =>
    intro S h
    unfold ledP
    split
    · rename_i hs
      refine took_tail hs (ih _ (fun e => ?_))
      have := adv_next (toks_sees (by simp [sTail]) hs) e
      have := h this.1
      omega
    · split
      · refine took_num (S1 := ((S.signed en).2.want en [sFby, sCons]).2) (adv_lednum.less (by omega)) _ (ih _ (fun e => ?_))
        have := adv_lednum (S := S) (en := en) e
        have := h this.1
        omega
      · exact hn S (fun e => (h e).2)

theorem led_any (hD : DepthSaid) {w : World} {r : Nat} {en : Int} (rb nb eb nb' rb' : Nat) (hrr : r < w.heap.size) (cr : w.cell? ⟨rb, 0, none⟩ = some (.pointer (some ⟨r, 0, none⟩))) (cn : w.cell? ⟨nb, 0, none⟩ = some (.func (.func 76) #[] #[.pointer (some ⟨nb', 0, none⟩), .pointer (some ⟨rb', 0, none⟩)])) (ce : w.cell? ⟨eb, 0, none⟩ = some (.func (.func 74) #[] #[.pointer (some ⟨rb, 0, none⟩), .pointer (some ⟨nb, 0, none⟩), .pointer (some ⟨eb, 0, none⟩)])) (hq1 : rb ≠ r) (hq2 : nb ≠ r) (hq3 : eb ≠ r) {Q : List Tok → Prop} (kq : Kept Q) (next : St → PE × St) (N : Nat) (hN0 : N ≤ 100000) (hT : ∀ S, (S.err = 0 → S.toks.length < N + 1) → Took S (next S))
    (HN : ∀ w1 S1, Upon r w w1 → Rd w1 r en S1 → S1.toks.length ≤ N → Q S1.toks → Calls Try.prog 76 #[.pointer (some ⟨nb', 0, none⟩), .pointer (some ⟨rb', 0, none⟩)] w1 (TreeAns w1 r en (next S1))) :
    ∀ (m : Nat) (wc : World) (S : St), Upon r w wc → Rd wc r en S → S.toks.length < m → S.toks.length ≤ N → Q S.toks →
      Calls Try.prog 74 #[.pointer (some ⟨rb, 0, none⟩), .pointer (some ⟨nb, 0, none⟩), .pointer (some ⟨eb, 0, none⟩)] wc (TreeAns wc r en (ledP en next m S)) := by
  have hl1 : rb < w.heap.size := block_lt_of_cell cr
  have hl2 : nb < w.heap.size := block_lt_of_cell cn
  have hl3 : eb < w.heap.size := block_lt_of_cell ce
  intro m
  induction m with
  | zero => intro wc S _ _ h _ _; omega
  | succ m ih =>
    intro wc S hu hR hm hN hQ
    have cr' := (hu.cell (p := ⟨rb, 0, none⟩) hl1 hq1).trans cr
    have cn' := (hu.cell (p := ⟨nb, 0, none⟩) hl2 hq2).trans cn
    have ce' := (hu.cell (p := ⟨eb, 0, none⟩) hl3 hq3).trans ce
    have hrr' := Nat.lt_of_lt_of_le hrr hu.size
    rw [ledP]
    cases hs : seesP en [sTail] S with
    | true =>
      rw [if_pos rfl]
      have h1 := sees_some hs (by simp [sTail])
      have h2 := S.next_len
      exact led_tail hD hR rb nb eb nb' rb' hrr' cr' cn' ce' hq1 hq2 hq3 hs _ (fun e => by have := (took_led (N + 1) hT m S.next (fun _ => ⟨by omega, by omega⟩) e).2; omega) (fun w1 hu1 hR1 => ih w1 S.next (hu.trans hu1) hR1 (by omega) (by omega) (kq.next hQ))
    | false =>
      rw [if_neg (by decide)]
      cases hn : numB en S with
      | true =>
        rw [if_pos rfl]
        have h1 := S.signed_len en hn
        have h2 := (S.signed en).2.want_len en [sFby, sCons]
        exact led_num hD hR rb nb eb nb' rb' hrr' cr' cn' ce' hq1 hq2 hq3 hs hn rfl rfl _ (fun e => by have := (took_led (N + 1) hT m ((S.signed en).2.want en [sFby, sCons]).2 (fun _ => ⟨by omega, by omega⟩) e).2; omega) (fun w1 hu1 hR1 => ih w1 _ (hu.trans hu1) hR1 (by omega) (by omega) (kq.want (kq.signed hQ en) en _))
      | false =>
        rw [if_neg (by decide)]
        exact led_next hR rb nb eb nb' rb' hrr' cr' cn' ce' hq1 hq2 hq3 hs hn _ (fun w1 hu1 hR1 => HN w1 S (hu.trans hu1) hR1 hN hQ)

end Go.Proofs.Ytlpoimagikolfaa.syn
