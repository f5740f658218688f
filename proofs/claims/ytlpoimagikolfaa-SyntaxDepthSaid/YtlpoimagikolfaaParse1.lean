/-
  Contract of Parse, for texts of one flow.
-/
import Derived.Test.YtlpoimagikolfaaOneFlow
import Derived.Test.YtlpoimagikolfaaDepth3
import Derived.Test.YtlpoimagikolfaaLex6
namespace Go.Proofs.Ytlpoimagikolfaa.syn
open Go.RowKit
set_option linter.unusedVariables false
set_option linter.unusedSimpArgs false

theorem flow_full {w : World} {r : Nat} {en : Int} {S : St} (h : Rd w r en S) (n : Nat) (hn : n ≤ 100000) (hl : S.toks.length < n) (hq : NC S.toks) :
    Calls Try.prog 39 #[.pointer (some ⟨r, 0, none⟩)] w (FlowAns w r en (flowP en n S)) := by
  refine flow_any (S1 := (S.name en).2) (S2 := ((S.name en).2.want en [sEq]).2) h rfl rfl (exprP en n ((S.name en).2.want en [sEq]).2) ?_ rfl
  intro w1 _ hR
  have h1 : (S.name en).2.toks.length ≤ S.toks.length - 1 := S.need_len en _
  have h2 := (S.name en).2.want_len en [sEq]
  exact expr_any depth_said nc_kept (nc_said r en) n w1 _ hn hR (by omega) (nc_kept.want (nc_kept.name hq en) en [sEq])

theorem toksAt_of {w : World} {g : Nat} : ∀ (T : List Tok) (o : Nat), (∀ j u, (lex.cellsAll T)[j]? = some u → w.cell? ⟨g, o + j, none⟩ = some u) → ToksAt w g o T := by
  intro T
  induction T with
  | nil => intro o _; trivial
  | cons x T ih =>
    intro o h
    refine ⟨h 0 _ rfl, h 1 _ rfl, h 2 _ rfl, h 3 _ rfl, ih (o + 4) (fun j u hu => ?_)⟩
    have := h (j + 4) u (by simpa [lex.cellsAll, lex.cellsOf] using hu)
    rw [show o + 4 + j = o + (j + 4) by omega]; exact this

theorem ToksAt.below {w w' : World} {g : Nat} (hb : Below w.heap.size w w') (hg : g < w.heap.size) {T : List Tok} {o : Nat} (h : ToksAt w g o T) : ToksAt w' g o T := h.keep (fun o => hb.cell (p := ⟨g, o, none⟩) hg)

def Wds : Obj := .cells #[.string ⟨#[110, 111, 100, 101]⟩, .string ⟨#[98, 117, 100, 103, 101, 116]⟩, .string ⟨#[105, 110, 112, 117, 116]⟩, .string ⟨#[112, 101, 114, 105, 111, 100]⟩, .string ⟨#[112, 104, 97, 115, 101]⟩, .string ⟨#[102, 108, 111, 119]⟩, .string ⟨#[102, 98, 121]⟩, .string ⟨#[116, 97, 105, 108]⟩, .string ⟨#[111, 117, 116, 112, 117, 116]⟩, .string ⟨#[100, 101, 97, 100, 108, 105, 110, 101]⟩] 9
theorem rd_made {w1 : World} {base g cap : Nat} {T : List Tok} (hown : w1.ownsRow base 36 4 (.slice (some ⟨g, 0, none⟩) T.length cap) T.length (lex.cellsAll T)) (hT : T ≠ []) (hT2 : T.length ≤ 4000) (en : Int) :
    Rd ((w1.alloc Wds).alloc (Obj.cells #[.slice (some ⟨g, 0, none⟩) T.length cap, .slice (some ⟨w1.heap.size, 0, none⟩) 10 10, .int .i64 en, .int .i64 0, .int .i64 0] 71)) (w1.heap.size + 1) en ⟨T, 0, 0⟩ := by
  have hc := hown.cells (g := g) rfl
  have hg : g < w1.heap.size ∧ T.length ≤ cap := by
    rcases hown.2 with ⟨e, _⟩ | ⟨g', c', cur, e, _, hgg, hle, _⟩
    · cases e
    · injection e with e1 _ e3; injection e1 with e1; injection e1 with e1; subst e1 e3
      exact ⟨lt_of_block hgg, hle⟩
  have hat : ∀ j, (⟨g, 0, none⟩ : Addr).add j = ⟨g, 0 + j, none⟩ := by
    intro j; unfold Addr.add; by_cases h0 : j = 0 <;> simp [h0]
  refine ⟨⟨_, _, ?_, .inr ⟨g, 0, cap, rfl, hT, hg.2, by omega, ?_⟩, Nat.lt_succ_self _, ?_⟩, hT2⟩
  · have := heap_new (w1.alloc Wds) (Obj.cells #[.slice (some ⟨g, 0, none⟩) T.length cap, .slice (some ⟨w1.heap.size, 0, none⟩) 10 10, .int .i64 en, .int .i64 0, .int .i64 0] 71)
    rw [show (w1.alloc Wds).heap.size = w1.heap.size + 1 by simp] at this
    exact this
  · refine ToksAt.below (w := w1) (by repeat (first | (with_reducible exact Below.refl _ _) | ((with_reducible refine below_setAt ?_ ?_ _); (rotate_left; focus (first | omega | (simp; done) | (simp; omega)))) | ((with_reducible refine Below.alloc ?_ ?_ _); (rotate_left; focus (first | omega | (simp; done) | (simp; omega)))) | (with_reducible refine below_drewN ?_ _) | (with_reducible refine Below.drew ?_))) hg.1 (toksAt_of T 0 (fun j u hu => ?_))
    rw [← hat]; exact hc j u hu
  · intro j hj
    have hb : ((w1.alloc Wds).alloc (Obj.cells #[.slice (some ⟨g, 0, none⟩) T.length cap, .slice (some ⟨w1.heap.size, 0, none⟩) 10 10, .int .i64 en, .int .i64 0, .int .i64 0] 71)).heap[w1.heap.size]? = some Wds := (heap_alloc_old _ _ (by simp)).trans (heap_new w1 Wds)
    have hb' := hb
    unfold Wds at hb'
    have hcw := fun o => cell_of_row _ w1.heap.size o _ _ _ hb'
    unfold Wds
    rw [hcw]
    clear hb hb' hcw
    match j, hj with
    | 0, _ => rfl
    | 1, _ => rfl
    | 2, _ => rfl
    | 3, _ => rfl
    | 4, _ => rfl
    | 5, _ => rfl
    | 6, _ => rfl
    | 7, _ => rfl
    | 8, _ => rfl
    | 9, _ => rfl
    | j + 10, h => omega

def ParseOK (w : World) (f : PF) (e : Ending) (w' : World) : Prop :=
  ∃ fb cap, e = .returned (.tuple #[.agg #[.slice none 0 0, .slice none 0 0, .slice (some ⟨fb, 0, none⟩) 1 cap, .slice none 0 0], .int .i64 0, .int .i64 0]) ∧ 1 ≤ cap ∧ FlowAt w' (fun b => w.heap.size ≤ b) fb f ∧ Below w.heap.size w w'
def ParseNo (w : World) (a err : Int) (e : Ending) (w' : World) : Prop :=
  e = .returned (.tuple #[.agg #[.slice none 0 0, .slice none 0 0, .slice none 0 0, .slice none 0 0], .int .i64 a, .int .i64 err]) ∧ Below w.heap.size w w'

set_option maxRecDepth 100000 in
set_option maxHeartbeats 2000000 in
theorem parse_one (s : ByteArray) (w : World) (hs : s.size ≤ 4000) {T : List Tok} (hl : lex.lexP (s.size + 1) s.data.toList 0 [] = (T, 0, 0)) (hT : T ≠ []) (hT2 : T.length ≤ 4000) {k1 n1 a1 : Int} {S1 : St} (hw1 : St.want (s.size : Int) [sNode, sInput, sFlow, sOutput] ⟨T, 0, 0⟩ = (⟨k1, sFlow, n1, a1⟩, S1))
    (hq : NC S1.toks) (n : Nat) (hn : n ≤ 100000) (hl1 : S1.toks.length < n) (f : PF) (a err : Int) (hA : flowP (s.size : Int) n S1 = (f, ⟨[], a, err⟩)) :
    Calls Try.prog 9 #[.string s] w (fun e w' => if err = 0 then ParseOK w f e w' else ParseNo w a err e w') := by
  have HL := Lib.hid (fun w => lex.lex_any s w hs)
  rw [hl] at HL
  have HW1 := Lib.hid hw1
  have HT := Lib.hid hT
  have HA := Lib.hid hA
  have HQ := Lib.hid hq
  clear hl hw1 hT hA hq
  by_cases he : err = 0
  · subst he
    simp only [if_true]
    go_enter Try.func9, Try.ntmps9
    repeat' (first | (go_at_call 8; (with_reducible refine (HL.out _).mono ?_); rintro e w1 ⟨v, rfl, hown, hb1⟩; obtain ⟨g, cap, rfl, hg1, hg2⟩ := hown.form (List.length_pos_iff.2 HT.out); have HO := Lib.hid hown; clear hown; have l1 : w.heap.size < w1.heap.size := (by have := hb1.size; simp at this; omega)) | (go_at_call 23; (with_reducible refine (lex.words_any _).mono ?_); rintro e w2 ⟨rfl, rfl⟩) | (go_at_call 24; refine (program_one (rd_made HO.out HT.out hT2 (s.size : Int)) HT.out HW1.out (f, ⟨[], a, 0⟩) rfl (fun w1' _ hR => by rw [← HA.out]; exact flow_full hR n hn hl1 HQ.out)).mono ?_; rintro e w3 ⟨fb, cap3, rfl, hcap3, hfb, hfl, hR3, hu3⟩; have HFL := Lib.hid hfl; have l3 : w1.heap.size + 1 < w3.heap.size := hR3.lt; have l4 : w.heap.size < w3.heap.size := (by omega); have l5 : ¬ w3.heap.size = w.heap.size := (by omega); have l6 : ¬ w.heap.size = w3.heap.size := (by omega); obtain ⟨r3, r4⟩ := hR3.errs; have HR3 := Lib.hid hR3; have hZ3 : w3.heap[w.heap.size]? = some (Obj.cells #[.slice none 0 0, .slice none 0 0, .slice none 0 0, .slice none 0 0] 27) := (((by repeat (first | (with_reducible exact Same.refl _ _) | (with_reducible refine Same.alloc ?_ _) | (with_reducible refine Same.drewN ?_ _) | (with_reducible refine Same.drew ?_) | ((with_reducible refine Same.setCell ?_ ?_ _); focus (omega)) | ((with_reducible refine Same.upon ?_ hu3 ?_); focus (omega)) | (with_reducible refine Same.of_below hb1 ?_))) : Same (fun b => b = w.heap.size) (w.alloc (Obj.cells #[.slice none 0 0, .slice none 0 0, .slice none 0 0, .slice none 0 0] 27)) w3).block _ rfl (by simp)).trans (heap_new _ _); obtain ⟨⟨z0, z1, z2, z3⟩, zf⟩ := cells4' hZ3; have HZ3 := Lib.hid hZ3; clear hfl hR3 hZ3) | go_values | go_skip | go_guarded | go_step | go_upon | (simp only [Int.not_lt, Int.not_le] at *; go_simp) | (go_values <;> (try go_simp)) | (go_ite <;> go_prune <;> (try go_simp)) | (split <;> (first | (rename_i hx; exact (hx _ rfl).elim) | go_prune)))
    refine bodyPost_ret (v := .tuple #[.agg #[.slice none 0 0, .slice none 0 0, .slice (some ⟨fb, 0, none⟩) 1 cap3, .slice none 0 0], .int .i64 0, .int .i64 0]) ?_ rfl ?_; focus (simp only [results, Try.results9]; go_simp)
    have hb3 : Below w.heap.size _ w3 := hu3.below (by simp; omega) (by omega)
    refine ⟨fb, cap3, rfl, hcap3, ?_, (by repeat (first | (with_reducible exact Below.refl _ _) | ((with_reducible refine below_setAt ?_ ?_ _); (rotate_left; focus (first | omega | (simp; done) | (simp; omega)))) | ((with_reducible refine Below.alloc ?_ ?_ _); (rotate_left; focus (first | omega | (simp; done) | (simp; omega)))) | (with_reducible refine below_drewN ?_ _) | (with_reducible refine Below.drew ?_) | ((with_reducible refine Below.trans ?_ (Below.mono hb3 ?_)); (rotate_left; focus (first | omega | (simp; done) | (simp; omega)))) | ((with_reducible refine Below.trans ?_ (Below.mono hb1 ?_)); (rotate_left; focus (first | omega | (simp; done) | (simp; omega))))))⟩
    exact (HFL.out.keep (by repeat (first | (with_reducible exact Same.refl _ _) | (with_reducible refine Same.alloc ?_ _) | (with_reducible refine Same.drewN ?_ _) | (with_reducible refine Same.drew ?_) | ((with_reducible refine Same.setCell ?_ ?_ _); focus ((intro h; simp at h; omega))))) hfb).mono (fun b h _ => by simp at h; show w.heap.size ≤ b; omega)
  · simp only [if_neg he]
    have he' : (err == 0) = false := by simpa using he
    go_enter Try.func9, Try.ntmps9
    repeat' (first | (go_at_call 8; (with_reducible refine (HL.out _).mono ?_); rintro e w1 ⟨v, rfl, hown, hb1⟩; obtain ⟨g, cap, rfl, hg1, hg2⟩ := hown.form (List.length_pos_iff.2 HT.out); have HO := Lib.hid hown; clear hown; have l1 : w.heap.size < w1.heap.size := (by have := hb1.size; simp at this; omega)) | (go_at_call 23; (with_reducible refine (lex.words_any _).mono ?_); rintro e w2 ⟨rfl, rfl⟩) | (go_at_call 24; refine (program_one (rd_made HO.out HT.out hT2 (s.size : Int)) HT.out HW1.out (f, ⟨[], a, err⟩) rfl (fun w1' _ hR => by rw [← HA.out]; exact flow_full hR n hn hl1 HQ.out)).mono ?_; rintro e w3 ⟨fb, cap3, rfl, hcap3, hfb, hfl, hR3, hu3⟩; have HFL := Lib.hid hfl; have l3 : w1.heap.size + 1 < w3.heap.size := hR3.lt; have l4 : w.heap.size < w3.heap.size := (by omega); have l5 : ¬ w3.heap.size = w.heap.size := (by omega); have l6 : ¬ w.heap.size = w3.heap.size := (by omega); obtain ⟨r3, r4⟩ := hR3.errs; have HR3 := Lib.hid hR3; have hZ3 : w3.heap[w.heap.size]? = some (Obj.cells #[.slice none 0 0, .slice none 0 0, .slice none 0 0, .slice none 0 0] 27) := (((by repeat (first | (with_reducible exact Same.refl _ _) | (with_reducible refine Same.alloc ?_ _) | (with_reducible refine Same.drewN ?_ _) | (with_reducible refine Same.drew ?_) | ((with_reducible refine Same.setCell ?_ ?_ _); focus (omega)) | ((with_reducible refine Same.upon ?_ hu3 ?_); focus (omega)) | (with_reducible refine Same.of_below hb1 ?_))) : Same (fun b => b = w.heap.size) (w.alloc (Obj.cells #[.slice none 0 0, .slice none 0 0, .slice none 0 0, .slice none 0 0] 27)) w3).block _ rfl (by simp)).trans (heap_new _ _); obtain ⟨⟨z0, z1, z2, z3⟩, zf⟩ := cells4' hZ3; have HZ3 := Lib.hid hZ3; clear hfl hR3 hZ3) | go_values | go_skip | go_guarded | go_step | go_upon | (simp only [Int.not_lt, Int.not_le] at *; go_simp) | (go_values <;> (try go_simp)) | (go_ite <;> go_prune <;> (try go_simp)) | (split <;> (first | (rename_i hx; exact (hx _ rfl).elim) | go_prune)))
    go_region
    go_wp2
    refine bodyPost_ret (v := .tuple #[.agg #[.slice none 0 0, .slice none 0 0, .slice none 0 0, .slice none 0 0], .int .i64 a, .int .i64 err]) ?_ rfl ?_; focus (simp only [results, Try.results9]; go_simp)
    have hb3 : Below w.heap.size _ w3 := hu3.below (by simp; omega) (by omega)
    exact ⟨rfl, (by repeat (first | (with_reducible exact Below.refl _ _) | ((with_reducible refine below_setAt ?_ ?_ _); (rotate_left; focus (first | omega | (simp; done) | (simp; omega)))) | ((with_reducible refine Below.alloc ?_ ?_ _); (rotate_left; focus (first | omega | (simp; done) | (simp; omega)))) | (with_reducible refine below_drewN ?_ _) | (with_reducible refine Below.drew ?_) | ((with_reducible refine Below.trans ?_ (Below.mono hb3 ?_)); (rotate_left; focus (first | omega | (simp; done) | (simp; omega)))) | ((with_reducible refine Below.trans ?_ (Below.mono hb1 ?_)); (rotate_left; focus (first | omega | (simp; done) | (simp; omega))))))⟩

end Go.Proofs.Ytlpoimagikolfaa.syn
