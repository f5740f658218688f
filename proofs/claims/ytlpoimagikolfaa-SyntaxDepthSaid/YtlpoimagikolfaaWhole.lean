/-
  Contracts of the reader's whole and factored, over one of Depth.
-/
import Derived.Test.YtlpoimagikolfaaTree
namespace Go.Proofs.Ytlpoimagikolfaa.syn
open Go.RowKit
set_option linter.unusedVariables false
set_option linter.unusedSimpArgs false

/-- How many expressions there are in a row, and in them. -/
def PL.sz : PL → Nat
  | .nil => 0
  | .cons _ _ _ _ args _ tl => args.sz + 1 + tl.sz
def PE.sz (e : PE) : Nat := e.args.sz + 1
theorem PE.one_sz (e : PE) : e.one.sz = e.sz := rfl
theorem PL.ht_sz : ∀ l : PL, l.ht ≤ l.sz := by
  intro l
  induction l with
  | nil => exact Nat.le_refl _
  | cons k nm n d args a tl ih1 ih2 => simp only [PL.ht, PL.sz]; omega

/-- What Depth answers. -/
def DepthSaid : Prop := ∀ (w : World) (P : Nat → Prop) (k n d a : Int) (nm : ByteArray) (args : PL) (ad : Option Addr) (cap : Nat), SlA w P args ad → args.len ≤ cap → args.sz ≤ 100000 →
  Calls Try.prog 11 #[.agg #[.int .i64 k, .string nm, .int .i64 n, .int .i64 d, .slice ad args.len cap, .int .i64 a]] w fun e w' => e = .returned (.int .i64 ((args.ht : Int) + 1)) ∧ Below w.heap.size w w'

def St.whole (e : PE) (S : St) : St := if S.err = 0 ∧ 20 < (e.args.ht : Int) + 1 then S.fail e.a 2 else S

theorem whole_any (hD : DepthSaid) {w : World} {r : Nat} {en : Int} {S : St} (h : Rd w r en S) (k n d a : Int) (nm : ByteArray) (args : PL) (ad : Option Addr) (cap : Nat) {P : Nat → Prop} (hP : ¬ P r) (hs : SlA w P args ad) (hcap : args.len ≤ cap) (hz : S.err = 0 → args.sz ≤ 100000) :
    Calls Try.prog 71 #[.pointer (some ⟨r, 0, none⟩), .agg #[.int .i64 k, .string nm, .int .i64 n, .int .i64 d, .slice ad args.len cap, .int .i64 a]] w fun e w' =>
      e = .returned (.agg #[.int .i64 k, .string nm, .int .i64 n, .int .i64 d, .slice ad args.len cap, .int .i64 a]) ∧ Rd w' r en (S.whole ⟨k, nm, n, d, args, a⟩) ∧ Upon r w w' := by
  have HR := Lib.hid h
  have hr := h.lt
  have hr' : r < w.heap.size + 1 := by omega
  have hr'' : r < w.heap.size + 1 + 1 := by omega
  obtain ⟨⟨tv, wb, h1, h2, h4, h5⟩, h6⟩ := h
  obtain ⟨c0, c1, c2, c3, c4⟩ := blk_cells h1
  have HD := Lib.hid (fun w1 (hb : Upon r w w1 ∧ S.err = 0) => hD w1 P k n d a nm args ad cap (hs.keep (Same.upon hP hb.1 (Same.refl _ _))) hcap (hz hb.2))
  clear h1 h2 h5 h6 c0 c1 c2 c3 hD hs hz
  by_cases he : S.err = 0
  · by_cases hd : 20 < (args.ht : Int) + 1
    · have E := Lib.hid (show S.whole ⟨k, nm, n, d, args, a⟩ = S.fail a 2 by unfold St.whole; rw [if_pos ⟨he, hd⟩])
      have HE := Lib.hid he
      rw [he] at c4
      clear he
      go_enter Try.func71, Try.ntmps71
      repeat' (first | (go_at_call 11; refine (HD.out _ ⟨?_, HE.out⟩).mono ?_; exact (by repeat (first | (with_reducible exact Upon.refl _ _) | ((with_reducible refine Upon.setAt ?_ ?_ _); (rotate_left; focus (first | exact Or.inl rfl | omega | (simp; done) | (simp; omega)))) | (with_reducible refine Upon.alloc ?_ _) | (with_reducible refine Upon.drewN ?_ _) | (with_reducible refine Upon.drew ?_))); rintro e w1 ⟨rfl, hb1⟩; obtain ⟨hc1, hf1⟩ := bcell hb1; have a1 : w.heap.size < w1.heap.size := sz_of hb1 (by first | omega | (simp; done) | (simp; omega)); have a1' : w.heap.size + 1 < w1.heap.size := sz_of hb1 (by first | omega | (simp; done) | (simp; omega)); have hne : ¬ w.heap.size = r := (by omega); have hne' : ¬ w.heap.size + 1 = r := (by omega)) | (go_at_call 36; refine (fail_any (Rd.below HR.out ?_) _ _).mono ?_; exact (by repeat (first | (with_reducible exact Below.refl _ _) | ((with_reducible refine below_setAt ?_ ?_ _); (rotate_left; focus (first | omega | (simp; done) | (simp; omega)))) | ((with_reducible refine Below.alloc ?_ ?_ _); (rotate_left; focus (first | omega | (simp; done) | (simp; omega)))) | (with_reducible refine below_drewN ?_ _) | (with_reducible refine Below.drew ?_) | ((with_reducible refine Below.trans ?_ (Below.mono hb1 ?_)); (rotate_left; focus (first | omega | (simp; done) | (simp; omega)))))); rintro e w2 ⟨rfl, hR2, hu2⟩; have HR2 := Lib.hid hR2; clear hR2; obtain ⟨hc2, hf2⟩ := ucell hu2; have a2 : w.heap.size < w2.heap.size := Nat.lt_of_lt_of_le a1 hu2.size; have a2' : w.heap.size + 1 < w2.heap.size := Nat.lt_of_lt_of_le a1' hu2.size) | go_values | go_skip | go_guarded | go_step | go_upon | (simp only [Int.not_lt, Int.not_le] at *; go_simp) | (go_values <;> (try go_simp)) | (go_ite <;> go_prune <;> (try go_simp)) | (split <;> (first | (rename_i hx; exact (hx _ rfl).elim) | go_prune)))
      refine bodyPost_ret (v := .agg #[.int .i64 k, .string nm, .int .i64 n, .int .i64 d, .slice ad args.len cap, .int .i64 a]) ?_ rfl ?_; focus (simp only [results, Try.results71]; go_simp)
      exact ⟨rfl, by rw [E.out]; exact Rd.below HR2.out (by repeat (first | (with_reducible exact Below.refl _ _) | ((with_reducible refine below_setAt ?_ ?_ _); (rotate_left; focus (first | omega | (simp; done) | (simp; omega)))) | ((with_reducible refine Below.alloc ?_ ?_ _); (rotate_left; focus (first | omega | (simp; done) | (simp; omega)))) | (with_reducible refine below_drewN ?_ _) | (with_reducible refine Below.drew ?_))), (by repeat (first | (with_reducible exact Upon.refl _ _) | ((with_reducible refine Upon.setAt ?_ ?_ _); (rotate_left; focus (first | exact Or.inl rfl | omega | (simp; done) | (simp; omega)))) | (with_reducible refine Upon.alloc ?_ _) | (with_reducible refine Upon.drewN ?_ _) | (with_reducible refine Upon.drew ?_) | (with_reducible refine Upon.trans ?_ hu2) | (with_reducible refine Upon.trans ?_ (Upon.of_below hb1))))⟩
    · have E := Lib.hid (show S.whole ⟨k, nm, n, d, args, a⟩ = S by unfold St.whole; rw [if_neg (fun h => hd h.2)])
      have hd' : (args.ht : Int) + 1 ≤ 20 := by omega
      have HE := Lib.hid he
      rw [he] at c4
      clear he hd
      go_enter Try.func71, Try.ntmps71
      repeat' (first | (go_at_call 11; refine (HD.out _ ⟨?_, HE.out⟩).mono ?_; exact (by repeat (first | (with_reducible exact Upon.refl _ _) | ((with_reducible refine Upon.setAt ?_ ?_ _); (rotate_left; focus (first | exact Or.inl rfl | omega | (simp; done) | (simp; omega)))) | (with_reducible refine Upon.alloc ?_ _) | (with_reducible refine Upon.drewN ?_ _) | (with_reducible refine Upon.drew ?_))); rintro e w1 ⟨rfl, hb1⟩; obtain ⟨hc1, hf1⟩ := bcell hb1; have a1 : w.heap.size < w1.heap.size := sz_of hb1 (by first | omega | (simp; done) | (simp; omega)); have a1' : w.heap.size + 1 < w1.heap.size := sz_of hb1 (by first | omega | (simp; done) | (simp; omega)); have hne : ¬ w.heap.size = r := (by omega); have hne' : ¬ w.heap.size + 1 = r := (by omega)) | go_values | go_skip | go_guarded | go_step | go_upon | (simp only [Int.not_lt, Int.not_le] at *; go_simp) | (go_values <;> (try go_simp)) | (go_ite <;> go_prune <;> (try go_simp)) | (split <;> (first | (rename_i hx; exact (hx _ rfl).elim) | go_prune)))
      refine bodyPost_ret (v := .agg #[.int .i64 k, .string nm, .int .i64 n, .int .i64 d, .slice ad args.len cap, .int .i64 a]) ?_ rfl ?_; focus (simp only [results, Try.results71]; go_simp)
      exact ⟨rfl, by rw [E.out]; exact Rd.below HR.out (by repeat (first | (with_reducible exact Below.refl _ _) | ((with_reducible refine below_setAt ?_ ?_ _); (rotate_left; focus (first | omega | (simp; done) | (simp; omega)))) | ((with_reducible refine Below.alloc ?_ ?_ _); (rotate_left; focus (first | omega | (simp; done) | (simp; omega)))) | (with_reducible refine below_drewN ?_ _) | (with_reducible refine Below.drew ?_) | ((with_reducible refine Below.trans ?_ (Below.mono hb1 ?_)); (rotate_left; focus (first | omega | (simp; done) | (simp; omega)))))), (by repeat (first | (with_reducible exact Upon.refl _ _) | ((with_reducible refine Upon.setAt ?_ ?_ _); (rotate_left; focus (first | exact Or.inl rfl | omega | (simp; done) | (simp; omega)))) | (with_reducible refine Upon.alloc ?_ _) | (with_reducible refine Upon.drewN ?_ _) | (with_reducible refine Upon.drew ?_) | (with_reducible refine Upon.trans ?_ (Upon.of_below hb1))))⟩
  · have E := Lib.hid (show S.whole ⟨k, nm, n, d, args, a⟩ = S by unfold St.whole; rw [if_neg (fun h => he h.1)])
    have he' : (S.err == 0) = false := by simpa using he
    clear he
    go_enter Try.func71, Try.ntmps71
    repeat' (first | go_values | go_skip | go_guarded | go_step | go_upon | (simp only [Int.not_lt, Int.not_le] at *; go_simp) | (go_values <;> (try go_simp)) | (go_ite <;> go_prune <;> (try go_simp)) | (split <;> (first | (rename_i hx; exact (hx _ rfl).elim) | go_prune)))
    refine bodyPost_ret (v := .agg #[.int .i64 k, .string nm, .int .i64 n, .int .i64 d, .slice ad args.len cap, .int .i64 a]) ?_ rfl ?_; focus (simp only [results, Try.results71]; go_simp)
    exact ⟨rfl, by rw [E.out]; exact Rd.below HR.out (by repeat (first | (with_reducible exact Below.refl _ _) | ((with_reducible refine below_setAt ?_ ?_ _); (rotate_left; focus (first | omega | (simp; done) | (simp; omega)))) | ((with_reducible refine Below.alloc ?_ ?_ _); (rotate_left; focus (first | omega | (simp; done) | (simp; omega)))) | (with_reducible refine below_drewN ?_ _) | (with_reducible refine Below.drew ?_))), (by repeat (first | (with_reducible exact Upon.refl _ _) | ((with_reducible refine Upon.setAt ?_ ?_ _); (rotate_left; focus (first | exact Or.inl rfl | omega | (simp; done) | (simp; omega)))) | (with_reducible refine Upon.alloc ?_ _) | (with_reducible refine Upon.drewN ?_ _) | (with_reducible refine Upon.drew ?_)))⟩

end Go.Proofs.Ytlpoimagikolfaa.syn
