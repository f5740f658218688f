/-
  Contracts of the reader's small calls, three: take, need, want, name, number, signed.
-/
import Derived.Test.YtlpoimagikolfaaRead2
namespace Go.Proofs.Ytlpoimagikolfaa.syn
open Go.RowKit
set_option linter.unusedVariables false
set_option linter.unusedSimpArgs false

theorem strs1 (w : World) (a : ByteArray) (B : Nat) (hB : B = w.heap.size) : ∀ j, j < [a].length → (w.alloc (Obj.cells #[.string a] 9)).cell? ⟨B, 0 + j, none⟩ = some (.string ([a].getD j ByteArray.empty)) := by
  subst hB
  intro j hj
  match j, hj with
  | 0, _ => simp [go_sem]
theorem strs2 (w : World) (a b : ByteArray) (B : Nat) (hB : B = w.heap.size) : ∀ j, j < [a, b].length → (w.alloc (Obj.cells #[.string a, .string b] 9)).cell? ⟨B, 0 + j, none⟩ = some (.string ([a, b].getD j ByteArray.empty)) := by
  subst hB
  intro j hj
  match j, hj with
  | 0, _ => simp [go_sem]
  | 1, _ => simp [go_sem]
theorem strs3 (w : World) (a b c : ByteArray) (B : Nat) (hB : B = w.heap.size) : ∀ j, j < [a, b, c].length → (w.alloc (Obj.cells #[.string a, .string b, .string c] 9)).cell? ⟨B, 0 + j, none⟩ = some (.string ([a, b, c].getD j ByteArray.empty)) := by
  subst hB
  intro j hj
  match j, hj with
  | 0, _ => simp [go_sem]
  | 1, _ => simp [go_sem]
  | 2, _ => simp [go_sem]
theorem strs4 (w : World) (a b c d : ByteArray) (B : Nat) (hB : B = w.heap.size) : ∀ j, j < [a, b, c, d].length → (w.alloc (Obj.cells #[.string a, .string b, .string c, .string d] 9)).cell? ⟨B, 0 + j, none⟩ = some (.string ([a, b, c, d].getD j ByteArray.empty)) := by
  subst hB
  intro j hj
  match j, hj with
  | 0, _ => simp [go_sem]
  | 1, _ => simp [go_sem]
  | 2, _ => simp [go_sem]
  | 3, _ => simp [go_sem]

def seesP (en : Int) (zs : List ByteArray) (S : St) : Bool := Lib.containsS zs (S.peek en).t
def St.need (en : Int) (b : Bool) (S : St) : Tok × St := ((if b then S else S.fail (S.peek en).a 1).peek en, (if b then S else S.fail (S.peek en).a 1).next)
def St.want (en : Int) (zs : List ByteArray) (S : St) : Tok × St := S.need en (seesP en zs S)
def St.name (en : Int) (S : St) : Tok × St := S.need en (nameB (S.peek en).k (S.peek en).t)
def St.num (en : Int) (S : St) : Tok × St := S.need en ((S.peek en).k == 2)
def St.number (en lo hi : Int) (S : St) : Int × St := ((S.num en).1.n, if (S.num en).1.n < lo ∨ hi < (S.num en).1.n then (S.num en).2.fail (S.num en).1.a 7 else (S.num en).2)
def St.take (en : Int) (s : ByteArray) (S : St) : Bool × St := (seesP en [s] S, if seesP en [s] S then S.next else S)
def minus : ByteArray := ⟨#[45]⟩
def St.signed (en : Int) (S : St) : Int × St := if seesP en [minus] S then (wrap64 (-(S.next.num en).1.n), (S.next.num en).2) else ((S.num en).1.n, (S.num en).2)

theorem take_any {w : World} {r : Nat} {en : Int} {S : St} (h : Rd w r en S) (s : ByteArray) {b : Bool} {S' : St} (hy : S.take en s = (b, S')) :
    Calls Try.prog 57 #[.pointer (some ⟨r, 0, none⟩), .string s] w fun e w' => e = .returned (.bool b) ∧ Rd w' r en S' ∧ Upon r w w' := by
  obtain ⟨rfl, rfl⟩ : seesP en [s] S = b ∧ (if seesP en [s] S then S.next else S) = S' := by
    unfold St.take at hy; exact ⟨congrArg Prod.fst hy, congrArg Prod.snd hy⟩
  clear hy
  have HR := Lib.hid h
  have hr := h.lt
  unfold seesP
  obtain ⟨xk, xt, xn, xa, hx⟩ : ∃ xk xt xn xa, S.peek en = ⟨xk, xt, xn, xa⟩ := ⟨_, _, _, _, rfl⟩
  have HX := Lib.hid hx
  rw [hx]
  clear hx h
  simp only
  cases hb : Lib.containsS [s] xt with
  | false =>
    have HB := Lib.hid hb
    clear hb
    go_enter Try.func57, Try.ntmps57
    repeat' (first | (go_at_call 44; refine (sees_any (Rd.below HR.out ?_) HX.out _ _ _ [s] rfl (by simp) ?_ ?_).mono ?_; exact (by repeat (first | (with_reducible exact Below.refl _ _) | ((with_reducible refine below_setAt ?_ ?_ _); (rotate_left; focus (first | omega | (simp; done) | (simp; omega)))) | ((with_reducible refine Below.alloc ?_ ?_ _); (rotate_left; focus (first | omega | (simp; done) | (simp; omega)))) | (with_reducible refine below_drewN ?_ _) | (with_reducible refine Below.drew ?_))); (focus (first | omega | (simp; done) | (simp; omega))); exact strs1 _ _ _ (by simp); rw [HB.out]; rintro e w1 ⟨rfl, hb1⟩; obtain ⟨hc1, hf1⟩ := bcell hb1; have a1 : w.heap.size < w1.heap.size := sz_of hb1 (by first | omega | (simp; done) | (simp; omega))) | go_values | go_skip | go_guarded | go_step | go_upon | (simp only [Int.not_lt, Int.not_le] at *; go_simp) | (go_values <;> (try go_simp)) | (go_ite <;> go_prune <;> (try go_simp)) | (split <;> (first | (rename_i hx; exact (hx _ rfl).elim) | go_prune)))
    go_ret
    exact ⟨rfl, Rd.below HR.out (by repeat (first | (with_reducible exact Below.refl _ _) | ((with_reducible refine below_setAt ?_ ?_ _); (rotate_left; focus (first | omega | (simp; done) | (simp; omega)))) | ((with_reducible refine Below.alloc ?_ ?_ _); (rotate_left; focus (first | omega | (simp; done) | (simp; omega)))) | (with_reducible refine below_drewN ?_ _) | (with_reducible refine Below.drew ?_) | ((with_reducible refine Below.trans ?_ (Below.mono hb1 ?_)); (rotate_left; focus (first | omega | (simp; done) | (simp; omega)))))), (by repeat (first | (with_reducible exact Upon.refl _ _) | ((with_reducible refine Upon.setAt ?_ ?_ _); (rotate_left; focus (first | exact Or.inl rfl | omega | (simp; done) | (simp; omega)))) | (with_reducible refine Upon.alloc ?_ _) | (with_reducible refine Upon.drewN ?_ _) | (with_reducible refine Upon.drew ?_) | (with_reducible refine Upon.trans ?_ (Upon.of_below hb1))))⟩
  | true =>
    have HB := Lib.hid hb
    clear hb
    go_enter Try.func57, Try.ntmps57
    repeat' (first | (go_at_call 44; refine (sees_any (Rd.below HR.out ?_) HX.out _ _ _ [s] rfl (by simp) ?_ ?_).mono ?_; exact (by repeat (first | (with_reducible exact Below.refl _ _) | ((with_reducible refine below_setAt ?_ ?_ _); (rotate_left; focus (first | omega | (simp; done) | (simp; omega)))) | ((with_reducible refine Below.alloc ?_ ?_ _); (rotate_left; focus (first | omega | (simp; done) | (simp; omega)))) | (with_reducible refine below_drewN ?_ _) | (with_reducible refine Below.drew ?_))); (focus (first | omega | (simp; done) | (simp; omega))); exact strs1 _ _ _ (by simp); rw [HB.out]; rintro e w1 ⟨rfl, hb1⟩; obtain ⟨hc1, hf1⟩ := bcell hb1; have a1 : w.heap.size < w1.heap.size := sz_of hb1 (by first | omega | (simp; done) | (simp; omega))) | (go_at_call 55; refine (next_any (Rd.below HR.out ?_) HX.out).mono ?_; exact (by repeat (first | (with_reducible exact Below.refl _ _) | ((with_reducible refine below_setAt ?_ ?_ _); (rotate_left; focus (first | omega | (simp; done) | (simp; omega)))) | ((with_reducible refine Below.alloc ?_ ?_ _); (rotate_left; focus (first | omega | (simp; done) | (simp; omega)))) | (with_reducible refine below_drewN ?_ _) | (with_reducible refine Below.drew ?_) | ((with_reducible refine Below.trans ?_ (Below.mono hb1 ?_)); (rotate_left; focus (first | omega | (simp; done) | (simp; omega)))))); rintro e w2 ⟨rfl, hR2, hu2⟩; have HR2 := Lib.hid hR2; clear hR2) | go_values | go_skip | go_guarded | go_step | go_upon | (simp only [Int.not_lt, Int.not_le] at *; go_simp) | (go_values <;> (try go_simp)) | (go_ite <;> go_prune <;> (try go_simp)) | (split <;> (first | (rename_i hx; exact (hx _ rfl).elim) | go_prune)))
    go_ret
    exact ⟨rfl, HR2.out, (by repeat (first | (with_reducible exact Upon.refl _ _) | ((with_reducible refine Upon.setAt ?_ ?_ _); (rotate_left; focus (first | exact Or.inl rfl | omega | (simp; done) | (simp; omega)))) | (with_reducible refine Upon.alloc ?_ _) | (with_reducible refine Upon.drewN ?_ _) | (with_reducible refine Upon.drew ?_) | (with_reducible refine Upon.trans ?_ hu2) | (with_reducible refine Upon.trans ?_ (Upon.of_below hb1))))⟩

theorem need_any {w : World} {r : Nat} {en : Int} {S : St} (h : Rd w r en S) (b : Bool) {yk yn ya : Int} {yt : ByteArray} {S' : St} (hy : S.need en b = (⟨yk, yt, yn, ya⟩, S')) :
    Calls Try.prog 43 #[.pointer (some ⟨r, 0, none⟩), .bool b] w fun e w' => e = .returned (.agg #[.int .i64 yk, .string yt, .int .i64 yn, .int .i64 ya]) ∧ Rd w' r en S' ∧ Upon r w w' := by
  have HR := Lib.hid h
  have hr := h.lt
  have hr' : r < w.heap.size + 1 := by omega
  cases b with
  | true =>
    obtain ⟨hy1, hy2⟩ : S.peek en = ⟨yk, yt, yn, ya⟩ ∧ S.next = S' := by
      unfold St.need at hy; simp only [if_true] at hy; exact ⟨congrArg Prod.fst hy, congrArg Prod.snd hy⟩
    subst hy2
    have HX := Lib.hid hy1
    clear hy hy1 h
    go_enter Try.func43, Try.ntmps43
    repeat' (first | (go_at_call 55; refine (next_any (Rd.below HR.out ?_) HX.out).mono ?_; exact (by repeat (first | (with_reducible exact Below.refl _ _) | ((with_reducible refine below_setAt ?_ ?_ _); (rotate_left; focus (first | omega | (simp; done) | (simp; omega)))) | ((with_reducible refine Below.alloc ?_ ?_ _); (rotate_left; focus (first | omega | (simp; done) | (simp; omega)))) | (with_reducible refine below_drewN ?_ _) | (with_reducible refine Below.drew ?_))); rintro e w2 ⟨rfl, hR2, hu2⟩; have HR2 := Lib.hid hR2; clear hR2; obtain ⟨hc2, hf2⟩ := ucell hu2; have a2 : w.heap.size < w2.heap.size := Nat.lt_of_lt_of_le (by first | omega | (simp; done) | (simp; omega)) hu2.size; have hne : ¬ w.heap.size = r := (by omega)) | go_values | go_skip | go_guarded | go_step | go_upon | (simp only [Int.not_lt, Int.not_le] at *; go_simp) | (go_values <;> (try go_simp)) | (go_ite <;> go_prune <;> (try go_simp)) | (split <;> (first | (rename_i hx; exact (hx _ rfl).elim) | go_prune)))
    refine bodyPost_ret (v := .agg #[.int .i64 yk, .string yt, .int .i64 yn, .int .i64 ya]) ?_ rfl ?_; focus (simp only [results, Try.results43]; go_simp)
    exact ⟨rfl, Rd.below HR2.out (by repeat (first | (with_reducible exact Below.refl _ _) | ((with_reducible refine below_setAt ?_ ?_ _); (rotate_left; focus (first | omega | (simp; done) | (simp; omega)))) | ((with_reducible refine Below.alloc ?_ ?_ _); (rotate_left; focus (first | omega | (simp; done) | (simp; omega)))) | (with_reducible refine below_drewN ?_ _) | (with_reducible refine Below.drew ?_))), (by repeat (first | (with_reducible exact Upon.refl _ _) | ((with_reducible refine Upon.setAt ?_ ?_ _); (rotate_left; focus (first | exact Or.inl rfl | omega | (simp; done) | (simp; omega)))) | (with_reducible refine Upon.alloc ?_ _) | (with_reducible refine Upon.drewN ?_ _) | (with_reducible refine Upon.drew ?_) | (with_reducible refine Upon.trans ?_ hu2)))⟩
  | false =>
    obtain ⟨xk, xt, xn, xa, hx⟩ : ∃ xk xt xn xa, S.peek en = ⟨xk, xt, xn, xa⟩ := ⟨_, _, _, _, rfl⟩
    obtain ⟨hy1, hy2⟩ : (S.fail xa 1).peek en = ⟨yk, yt, yn, ya⟩ ∧ (S.fail xa 1).next = S' := by
      unfold St.need at hy; rw [hx] at hy; exact ⟨congrArg Prod.fst hy, congrArg Prod.snd hy⟩
    subst hy2
    have HX := Lib.hid hx
    have HY := Lib.hid hy1
    have F := field_a xk xn xa xt
    clear hy hy1 hx h
    go_enter Try.func43, Try.ntmps43
    repeat' (first | (go_at_call 54; refine (peek_at (Rd.below HR.out ?_) HX.out).mono ?_; exact (by repeat (first | (with_reducible exact Below.refl _ _) | ((with_reducible refine below_setAt ?_ ?_ _); (rotate_left; focus (first | omega | (simp; done) | (simp; omega)))) | ((with_reducible refine Below.alloc ?_ ?_ _); (rotate_left; focus (first | omega | (simp; done) | (simp; omega)))) | (with_reducible refine below_drewN ?_ _) | (with_reducible refine Below.drew ?_))); rintro e w1 ⟨rfl, hb1⟩; obtain ⟨hc1, hf1⟩ := bcell hb1; have a1 : w.heap.size < w1.heap.size := sz_of hb1 (by first | omega | (simp; done) | (simp; omega)); have hne : ¬ w.heap.size = r := (by omega)) | (go_at_call 36; refine (fail_any (Rd.below HR.out ?_) _ _).mono ?_; exact (by repeat (first | (with_reducible exact Below.refl _ _) | ((with_reducible refine below_setAt ?_ ?_ _); (rotate_left; focus (first | omega | (simp; done) | (simp; omega)))) | ((with_reducible refine Below.alloc ?_ ?_ _); (rotate_left; focus (first | omega | (simp; done) | (simp; omega)))) | (with_reducible refine below_drewN ?_ _) | (with_reducible refine Below.drew ?_) | ((with_reducible refine Below.trans ?_ (Below.mono hb1 ?_)); (rotate_left; focus (first | omega | (simp; done) | (simp; omega)))))); rintro e w2 ⟨rfl, hR2, hu2⟩; have HR2 := Lib.hid hR2; clear hR2; obtain ⟨hc2, hf2⟩ := ucell hu2; have a2 : w.heap.size < w2.heap.size := Nat.lt_of_lt_of_le a1 hu2.size) | (go_at_call 55; refine (next_any HR2.out HY.out).mono ?_; rintro e w3 ⟨rfl, hR3, hu3⟩; have HR3 := Lib.hid hR3; clear hR3; obtain ⟨hc3, hf3⟩ := ucell hu3; have a3 : w.heap.size < w3.heap.size := Nat.lt_of_lt_of_le a2 hu3.size) | go_values | go_skip | go_guarded | go_step | go_upon | (simp only [Int.not_lt, Int.not_le] at *; go_simp) | (go_values <;> (try go_simp)) | (go_ite <;> go_prune <;> (try go_simp)) | (split <;> (first | (rename_i hx; exact (hx _ rfl).elim) | go_prune)))
    refine bodyPost_ret (v := .agg #[.int .i64 yk, .string yt, .int .i64 yn, .int .i64 ya]) ?_ rfl ?_; focus (simp only [results, Try.results43]; go_simp)
    exact ⟨rfl, Rd.below HR3.out (by repeat (first | (with_reducible exact Below.refl _ _) | ((with_reducible refine below_setAt ?_ ?_ _); (rotate_left; focus (first | omega | (simp; done) | (simp; omega)))) | ((with_reducible refine Below.alloc ?_ ?_ _); (rotate_left; focus (first | omega | (simp; done) | (simp; omega)))) | (with_reducible refine below_drewN ?_ _) | (with_reducible refine Below.drew ?_))), (by repeat (first | (with_reducible exact Upon.refl _ _) | ((with_reducible refine Upon.setAt ?_ ?_ _); (rotate_left; focus (first | exact Or.inl rfl | omega | (simp; done) | (simp; omega)))) | (with_reducible refine Upon.alloc ?_ _) | (with_reducible refine Upon.drewN ?_ _) | (with_reducible refine Upon.drew ?_) | (with_reducible refine Upon.trans ?_ hu3) | (with_reducible refine Upon.trans ?_ hu2) | (with_reducible refine Upon.trans ?_ (Upon.of_below hb1))))⟩

theorem want_any {w : World} {r : Nat} {en : Int} {S : St} (h : Rd w r en S) (b n c : Nat) (zs : List ByteArray) (hn : zs.length = n) (hz : n ≤ 10) (hbs : b < w.heap.size)
    (hc : ∀ j, j < zs.length → w.cell? ⟨b, 0 + j, none⟩ = some (.string (zs.getD j ByteArray.empty)))
    {yk yn ya : Int} {yt : ByteArray} {S' : St} (hy : S.want en zs = (⟨yk, yt, yn, ya⟩, S')) :
    Calls Try.prog 35 #[.pointer (some ⟨r, 0, none⟩), .slice (some ⟨b, 0, none⟩) n c] w fun e w' => e = .returned (.agg #[.int .i64 yk, .string yt, .int .i64 yn, .int .i64 ya]) ∧ Rd w' r en S' ∧ Upon r w w' := by
  have HR := Lib.hid h
  have hr := h.lt
  obtain ⟨xk, xt, xn, xa, hx⟩ : ∃ xk xt xn xa, S.peek en = ⟨xk, xt, xn, xa⟩ := ⟨_, _, _, _, rfl⟩
  have HX := Lib.hid hx
  have hy' : S.need en (Lib.containsS zs xt) = (⟨yk, yt, yn, ya⟩, S') := by
    unfold St.want seesP at hy; rw [hx] at hy; exact hy
  have HY := Lib.hid hy'
  have HS := Lib.hid (fun (w1 : World) (hb : Below w.heap.size w w1) => sees_any (Rd.below h (hb.mono (by omega))) hx b n c zs hn hz (Nat.lt_of_lt_of_le hbs hb.size) (fun j hj => by rw [hb.cell (p := ⟨b, 0 + j, none⟩) hbs]; exact hc j hj))
  clear hy hy' hx h hc
  go_enter Try.func35, Try.ntmps35
  repeat' (first | (go_at_call 44; refine (HS.out _ ?_).mono ?_; exact (by repeat (first | (with_reducible exact Below.refl _ _) | ((with_reducible refine below_setAt ?_ ?_ _); (rotate_left; focus (first | omega | (simp; done) | (simp; omega)))) | ((with_reducible refine Below.alloc ?_ ?_ _); (rotate_left; focus (first | omega | (simp; done) | (simp; omega)))) | (with_reducible refine below_drewN ?_ _) | (with_reducible refine Below.drew ?_))); rintro e w1 ⟨rfl, hb1⟩; obtain ⟨hc1, hf1⟩ := bcell hb1; have a1 : w.heap.size < w1.heap.size := sz_of hb1 (by first | omega | (simp; done) | (simp; omega)); have hne : ¬ w.heap.size = r := (by omega)) | (go_at_call 43; refine (need_any (Rd.below HR.out ?_) _ HY.out).mono ?_; exact (by repeat (first | (with_reducible exact Below.refl _ _) | ((with_reducible refine below_setAt ?_ ?_ _); (rotate_left; focus (first | omega | (simp; done) | (simp; omega)))) | ((with_reducible refine Below.alloc ?_ ?_ _); (rotate_left; focus (first | omega | (simp; done) | (simp; omega)))) | (with_reducible refine below_drewN ?_ _) | (with_reducible refine Below.drew ?_) | ((with_reducible refine Below.trans ?_ (Below.mono hb1 ?_)); (rotate_left; focus (first | omega | (simp; done) | (simp; omega)))))); rintro e w2 ⟨rfl, hR2, hu2⟩; have HR2 := Lib.hid hR2; clear hR2; obtain ⟨hc2, hf2⟩ := ucell hu2; have a2 : w.heap.size < w2.heap.size := Nat.lt_of_lt_of_le a1 hu2.size) | go_values | go_skip | go_guarded | go_step | go_upon | (simp only [Int.not_lt, Int.not_le] at *; go_simp) | (go_values <;> (try go_simp)) | (go_ite <;> go_prune <;> (try go_simp)) | (split <;> (first | (rename_i hx; exact (hx _ rfl).elim) | go_prune)))
  refine bodyPost_ret (v := .agg #[.int .i64 yk, .string yt, .int .i64 yn, .int .i64 ya]) ?_ rfl ?_; focus (simp only [results, Try.results35]; go_simp)
  exact ⟨rfl, Rd.below HR2.out (by repeat (first | (with_reducible exact Below.refl _ _) | ((with_reducible refine below_setAt ?_ ?_ _); (rotate_left; focus (first | omega | (simp; done) | (simp; omega)))) | ((with_reducible refine Below.alloc ?_ ?_ _); (rotate_left; focus (first | omega | (simp; done) | (simp; omega)))) | (with_reducible refine below_drewN ?_ _) | (with_reducible refine Below.drew ?_))), (by repeat (first | (with_reducible exact Upon.refl _ _) | ((with_reducible refine Upon.setAt ?_ ?_ _); (rotate_left; focus (first | exact Or.inl rfl | omega | (simp; done) | (simp; omega)))) | (with_reducible refine Upon.alloc ?_ _) | (with_reducible refine Upon.drewN ?_ _) | (with_reducible refine Upon.drew ?_) | (with_reducible refine Upon.trans ?_ hu2) | (with_reducible refine Upon.trans ?_ (Upon.of_below hb1))))⟩

theorem name_any {w : World} {r : Nat} {en : Int} {S : St} (h : Rd w r en S) {yk yn ya : Int} {yt : ByteArray} {S' : St} (hy : S.name en = (⟨yk, yt, yn, ya⟩, S')) :
    Calls Try.prog 45 #[.pointer (some ⟨r, 0, none⟩)] w fun e w' => e = .returned (.agg #[.int .i64 yk, .string yt, .int .i64 yn, .int .i64 ya]) ∧ Rd w' r en S' ∧ Upon r w w' := by
  have HR := Lib.hid h
  have hr := h.lt
  obtain ⟨xk, xt, xn, xa, hx⟩ : ∃ xk xt xn xa, S.peek en = ⟨xk, xt, xn, xa⟩ := ⟨_, _, _, _, rfl⟩
  have HX := Lib.hid hx
  have hy' : S.need en (nameB xk xt) = (⟨yk, yt, yn, ya⟩, S') := by
    unfold St.name at hy; rw [hx] at hy; exact hy
  have HY := Lib.hid hy'
  clear hy hy' hx h
  go_enter Try.func45, Try.ntmps45
  repeat' (first | (go_at_call 47; refine (seesName_any (Rd.below HR.out ?_) HX.out).mono ?_; exact (by repeat (first | (with_reducible exact Below.refl _ _) | ((with_reducible refine below_setAt ?_ ?_ _); (rotate_left; focus (first | omega | (simp; done) | (simp; omega)))) | ((with_reducible refine Below.alloc ?_ ?_ _); (rotate_left; focus (first | omega | (simp; done) | (simp; omega)))) | (with_reducible refine below_drewN ?_ _) | (with_reducible refine Below.drew ?_))); rintro e w1 ⟨rfl, hb1⟩; obtain ⟨hc1, hf1⟩ := bcell hb1; have a1 : w.heap.size < w1.heap.size := sz_of hb1 (by first | omega | (simp; done) | (simp; omega)); have hne : ¬ w.heap.size = r := (by omega)) | (go_at_call 43; refine (need_any (Rd.below HR.out ?_) _ HY.out).mono ?_; exact (by repeat (first | (with_reducible exact Below.refl _ _) | ((with_reducible refine below_setAt ?_ ?_ _); (rotate_left; focus (first | omega | (simp; done) | (simp; omega)))) | ((with_reducible refine Below.alloc ?_ ?_ _); (rotate_left; focus (first | omega | (simp; done) | (simp; omega)))) | (with_reducible refine below_drewN ?_ _) | (with_reducible refine Below.drew ?_) | ((with_reducible refine Below.trans ?_ (Below.mono hb1 ?_)); (rotate_left; focus (first | omega | (simp; done) | (simp; omega)))))); rintro e w2 ⟨rfl, hR2, hu2⟩; have HR2 := Lib.hid hR2; clear hR2; obtain ⟨hc2, hf2⟩ := ucell hu2; have a2 : w.heap.size < w2.heap.size := Nat.lt_of_lt_of_le a1 hu2.size) | go_values | go_skip | go_guarded | go_step | go_upon | (simp only [Int.not_lt, Int.not_le] at *; go_simp) | (go_values <;> (try go_simp)) | (go_ite <;> go_prune <;> (try go_simp)) | (split <;> (first | (rename_i hx; exact (hx _ rfl).elim) | go_prune)))
  refine bodyPost_ret (v := .agg #[.int .i64 yk, .string yt, .int .i64 yn, .int .i64 ya]) ?_ rfl ?_; focus (simp only [results, Try.results45]; go_simp)
  exact ⟨rfl, Rd.below HR2.out (by repeat (first | (with_reducible exact Below.refl _ _) | ((with_reducible refine below_setAt ?_ ?_ _); (rotate_left; focus (first | omega | (simp; done) | (simp; omega)))) | ((with_reducible refine Below.alloc ?_ ?_ _); (rotate_left; focus (first | omega | (simp; done) | (simp; omega)))) | (with_reducible refine below_drewN ?_ _) | (with_reducible refine Below.drew ?_))), (by repeat (first | (with_reducible exact Upon.refl _ _) | ((with_reducible refine Upon.setAt ?_ ?_ _); (rotate_left; focus (first | exact Or.inl rfl | omega | (simp; done) | (simp; omega)))) | (with_reducible refine Upon.alloc ?_ _) | (with_reducible refine Upon.drewN ?_ _) | (with_reducible refine Upon.drew ?_) | (with_reducible refine Upon.trans ?_ hu2) | (with_reducible refine Upon.trans ?_ (Upon.of_below hb1))))⟩

end Go.Proofs.Ytlpoimagikolfaa.syn
