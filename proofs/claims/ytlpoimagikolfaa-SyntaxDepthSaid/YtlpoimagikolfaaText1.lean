/-
  The reference's Digits and Text, of expressions that are chains of tail, *^ 2 and 7 fby.
-/
import Derived.Test.YtlpoimagikolfaaTree
import Derived.Laws.IdiomStrings
import Derived.Laws.Concat
import Derived.Deep.RegionHeld3
namespace Go.Proofs.Ytlpoimagikolfaa.syn
open Go.RowKit
set_option linter.unusedVariables false
set_option linter.unusedSimpArgs false

theorem ret_str {a b : ByteArray} (h : a = b) : Ending.returned (.string a) = .returned (.string b) := by rw [h]

theorem back_7 (w : World) : (convert 40 9 (.slice (some ⟨w.heap.size, 0, none⟩) 1 1)).run Try.prog (w.alloc (Obj.cells #[.int .u8 55] 5)) = .ok (.string ⟨#[55]⟩) (w.alloc (Obj.cells #[.int .u8 55] 5)) :=
  run_convert_bytes_back (P := Try.prog) (w.alloc (Obj.cells #[.int .u8 55] 5)) 40 9 5 ⟨w.heap.size, 0, none⟩ 1 [55] Try.underlying40 Try.underlying5 Try.underlying9 (fun j hj => by
    obtain rfl : j = 0 := by simp at hj; omega
    exact World.cell?_alloc_mark w _ _ (0, 0) 0)
set_option maxRecDepth 100000 in
set_option maxHeartbeats 1000000 in
theorem digits_7 (w : World) : Calls Try.prog 18 #[.int .i64 7] w fun e w' => e = .returned (.string ⟨#[55]⟩) ∧ Below w.heap.size w w' := by
  have hcv := back_7
  go_enter Try.func18, Try.ntmps18
  go_wp2
  go_ret
  exact ⟨rfl, (by repeat (first | (with_reducible exact Below.refl _ _) | ((with_reducible refine below_setAt ?_ ?_ _); (rotate_left; focus (first | omega | (simp; done) | (simp; omega)))) | ((with_reducible refine Below.alloc ?_ ?_ _); (rotate_left; focus (first | omega | (simp; done) | (simp; omega)))) | (with_reducible refine below_drewN ?_ _) | (with_reducible refine Below.drew ?_)))⟩

theorem back_2 (w : World) : (convert 40 9 (.slice (some ⟨w.heap.size, 0, none⟩) 1 1)).run Try.prog (w.alloc (Obj.cells #[.int .u8 50] 5)) = .ok (.string ⟨#[50]⟩) (w.alloc (Obj.cells #[.int .u8 50] 5)) :=
  run_convert_bytes_back (P := Try.prog) (w.alloc (Obj.cells #[.int .u8 50] 5)) 40 9 5 ⟨w.heap.size, 0, none⟩ 1 [50] Try.underlying40 Try.underlying5 Try.underlying9 (fun j hj => by
    obtain rfl : j = 0 := by simp at hj; omega
    exact World.cell?_alloc_mark w _ _ (0, 0) 0)
set_option maxRecDepth 100000 in
set_option maxHeartbeats 1000000 in
theorem digits_2 (w : World) : Calls Try.prog 18 #[.int .i64 2] w fun e w' => e = .returned (.string ⟨#[50]⟩) ∧ Below w.heap.size w w' := by
  have hcv := back_2
  go_enter Try.func18, Try.ntmps18
  go_wp2
  go_ret
  exact ⟨rfl, (by repeat (first | (with_reducible exact Below.refl _ _) | ((with_reducible refine below_setAt ?_ ?_ _); (rotate_left; focus (first | omega | (simp; done) | (simp; omega)))) | ((with_reducible refine Below.alloc ?_ ?_ _); (rotate_left; focus (first | omega | (simp; done) | (simp; omega)))) | (with_reducible refine below_drewN ?_ _) | (with_reducible refine Below.drew ?_)))⟩

def kOf : Nat → Int | 0 => 7 | 1 => 3 | _ => 6
def nOf : Nat → Int | 0 => 0 | 1 => 2 | _ => 7
def sX : ByteArray := ⟨#[120]⟩
/-- A chain of operators, the outermost first, over the name x; wherever things stand. -/
inductive ChainP : List Nat → PE → Prop where
  | nil (a : Int) : ChainP [] ⟨1, sX, 0, 0, .nil, a⟩
  | cons {o : Nat} {l : List Nat} {e : PE} (a : Int) (ho : o < 3) (h : ChainP l e) : ChainP (o :: l) ⟨kOf o, ⟨#[]⟩, nOf o, 0, e.one, a⟩
/-- Does the chain stand in brackets ahead of *^? -/
def pB : List Nat → Bool | [] => false | o :: _ => o != 1
def cT : List Nat → ByteArray
  | [] => sX
  | 0 :: l => ⟨#[116, 97, 105, 108, 32]⟩ ++ cT l
  | 1 :: l => ((if pB l = true then (⟨#[40]⟩ ++ cT l) ++ ⟨#[41]⟩ else cT l) ++ ⟨#[32, 42, 94, 32]⟩) ++ ⟨#[50]⟩
  | _ :: l => (⟨#[55]⟩ ++ ⟨#[32, 102, 98, 121, 32]⟩) ++ cT l
theorem size_app (a b : ByteArray) : (a ++ b).size = a.size + b.size := ByteArray.size_append
theorem cT_size : ∀ l : List Nat, (cT l).size ≤ 7 * l.length + 1 := by
  intro l
  induction l with
  | nil => decide
  | cons o l ih =>
    have e1 : ByteArray.size ⟨#[116, 97, 105, 108, 32]⟩ = 5 := rfl
    have e2 : ByteArray.size ⟨#[40]⟩ = 1 := rfl
    have e3 : ByteArray.size ⟨#[41]⟩ = 1 := rfl
    have e4 : ByteArray.size ⟨#[32, 42, 94, 32]⟩ = 4 := rfl
    have e5 : ByteArray.size ⟨#[50]⟩ = 1 := rfl
    have e6 : ByteArray.size ⟨#[55]⟩ = 1 := rfl
    have e7 : ByteArray.size ⟨#[32, 102, 98, 121, 32]⟩ = 5 := rfl
    rw [List.length_cons]
    match o with
    | 0 => rw [cT, size_app]; omega
    | 1 => rw [cT]; split <;> (simp only [size_app]; omega)
    | o + 2 => rw [cT, size_app, size_app]; (all_goals first | omega | simp)
theorem ChainP.low {l : List Nat} {e : PE} (h : ChainP l e) (hp : pB l = false) : e.k < 6 := by
  cases h with
  | nil a => show (1 : Int) < 6; omega
  | cons a ho h => rename_i o l e; match o, ho with | 0, _ => simp [pB] at hp | 1, _ => simp [kOf] | 2, _ => simp [pB] at hp

theorem ChainP.k {l : List Nat} {e : PE} (h : ChainP l e) : (6 ≤ e.k ∧ e.k ≤ 8) ↔ pB l = true := by
  cases h with
  | nil a => simp [pB]
  | cons a ho h => rename_i o l e; match o, ho with | 0, _ => simp [pB, kOf] | 1, _ => simp [pB, kOf] | 2, _ => simp [pB, kOf]

/-- What Text answers for a chain. -/
def TextSaid (l : List Nat) : Prop := ∀ (w : World) (P : Nat → Prop) (k n d a : Int) (nm : ByteArray) (args : PL) (ad : Option Addr) (cap : Nat), ChainP l ⟨k, nm, n, d, args, a⟩ → SlA w P args ad → args.len ≤ cap →
  Calls Try.prog 10 #[.agg #[.int .i64 k, .string nm, .int .i64 n, .int .i64 d, .slice ad args.len cap, .int .i64 a]] w fun e w' => e = .returned (.string (cT l)) ∧ Below w.heap.size w w'

theorem text_nil : TextSaid [] := by
  intro w P k n d a nm args ad cap hc hs hcap
  cases hc
  go_enter Try.func10, Try.ntmps10
  go_wp2
  go_ret
  exact ⟨rfl, (by repeat (first | (with_reducible exact Below.refl _ _) | ((with_reducible refine below_setAt ?_ ?_ _); (rotate_left; focus (first | omega | (simp; done) | (simp; omega)))) | ((with_reducible refine Below.alloc ?_ ?_ _); (rotate_left; focus (first | omega | (simp; done) | (simp; omega)))) | (with_reducible refine below_drewN ?_ _) | (with_reducible refine Below.drew ?_)))⟩

set_option maxRecDepth 100000 in
set_option maxHeartbeats 2000000 in
theorem text_cons (o : Nat) (l : List Nat) (hl : l.length ≤ 1000) (ih : TextSaid l) : TextSaid (o :: l) := by
  intro w P k n d a nm args ad cap hc hs hcap
  have hz := cT_size l
  cases hc with
  | cons a ho hc' =>
    rename_i e
    obtain ⟨ek, enm, en, ed, eargs, ea⟩ := e
    obtain ⟨b1, o1, rfl, hb1, h0, h1, h2, h3, h5, ⟨ad1, cap1, h4, hcap1, hd1⟩, _⟩ := hs.resolve_left (by intro h; cases h)
    have hblt := hb1.lt
    have HI := Lib.hid (fun w1 (hb : Below w.heap.size w w1) => ih w1 (fun b => b < w.heap.size) ek en ed ea enm eargs ad1 cap1 hc' (SlA.keep (w := w) (P := fun b => b < w.heap.size) (by rcases hd1 with h | ⟨b', o', e, hb', h⟩; (· exact .inl h); (· exact .inr ⟨b', o', e, ⟨hb'.lt, hb'.2⟩, h.mono (fun b _ h => h)⟩)) ⟨hb.size, fun b hb' _ => hb.block b hb'⟩) hcap1)
    have hk := hc'.k
    have hlow := hc'.low
    simp only at hk hlow
    have hcap' : 1 ≤ cap := hcap
    simp only [show (PE.one ⟨ek, enm, en, ed, eargs, ea⟩).len = 1 from rfl]
    clear hcap
    clear ih hs hd1 hc'
    match o, ho with
    | 0, _ =>
      clear hk hlow
      simp only [kOf, nOf, cT]
      go_enter Try.func10, Try.ntmps10
      repeat' (first | (go_at_call 10; refine (HI.out _ ?_).mono ?_; exact (by repeat (first | (with_reducible exact Below.refl _ _) | ((with_reducible refine below_setAt ?_ ?_ _); (rotate_left; focus (first | omega | (simp; done) | (simp; omega)))) | ((with_reducible refine Below.alloc ?_ ?_ _); (rotate_left; focus (first | omega | (simp; done) | (simp; omega)))) | (with_reducible refine below_drewN ?_ _) | (with_reducible refine Below.drew ?_))); rintro e w1 ⟨rfl, hb1⟩; obtain ⟨hc1, hf1⟩ := bcell hb1; have l1 : w.heap.size + 1 < w1.heap.size := sz_of hb1 (by simp)) | go_values | go_skip | go_guarded | go_step | go_upon | (simp only [Int.not_lt, Int.not_le] at *; go_simp) | (go_values <;> (try go_simp)) | (go_ite <;> go_prune <;> (try go_simp)) | (split <;> (first | (rename_i hx; exact (hx _ rfl).elim) | go_prune)))
      all_goals first | (exfalso; omega) | skip
      go_ret
      exact ⟨rfl, (by repeat (first | (with_reducible exact Below.refl _ _) | ((with_reducible refine below_setAt ?_ ?_ _); (rotate_left; focus (first | omega | (simp; done) | (simp; omega)))) | ((with_reducible refine Below.alloc ?_ ?_ _); (rotate_left; focus (first | omega | (simp; done) | (simp; omega)))) | (with_reducible refine below_drewN ?_ _) | (with_reducible refine Below.drew ?_) | ((with_reducible refine Below.trans ?_ (Below.mono hb1 ?_)); (rotate_left; focus (first | omega | (simp; done) | (simp; omega))))))⟩
    | 2, _ =>
      clear hk hlow
      simp only [kOf, nOf, cT]
      go_enter Try.func10, Try.ntmps10
      repeat' (first | (go_at_call 10; refine (HI.out _ ?_).mono ?_; exact (by repeat (first | (with_reducible exact Below.refl _ _) | ((with_reducible refine below_setAt ?_ ?_ _); (rotate_left; focus (first | omega | (simp; done) | (simp; omega)))) | ((with_reducible refine Below.alloc ?_ ?_ _); (rotate_left; focus (first | omega | (simp; done) | (simp; omega)))) | (with_reducible refine below_drewN ?_ _) | (with_reducible refine Below.drew ?_))); rintro e w1 ⟨rfl, hb1⟩; obtain ⟨hc1, hf1⟩ := bcell hb1; have l1 : w.heap.size + 1 < w1.heap.size := sz_of hb1 (by simp)) | (go_at_call 18; refine (digits_7 _).mono ?_; rintro e w2 ⟨rfl, hb2⟩) | go_values | go_skip | go_guarded | go_step | go_upon | (simp only [Int.not_lt, Int.not_le] at *; go_simp) | (go_values <;> (try go_simp)) | (go_ite <;> go_prune <;> (try go_simp)) | (split <;> (first | (rename_i hx; exact (hx _ rfl).elim) | go_prune)))
      all_goals first | (exfalso; omega) | skip
      go_ret
      exact ⟨rfl, (by repeat (first | (with_reducible exact Below.refl _ _) | ((with_reducible refine below_setAt ?_ ?_ _); (rotate_left; focus (first | omega | (simp; done) | (simp; omega)))) | ((with_reducible refine Below.alloc ?_ ?_ _); (rotate_left; focus (first | omega | (simp; done) | (simp; omega)))) | (with_reducible refine below_drewN ?_ _) | (with_reducible refine Below.drew ?_) | ((with_reducible refine Below.trans ?_ (Below.mono hb2 ?_)); (rotate_left; focus (first | omega | (simp; done) | (simp; omega)))) | ((with_reducible refine Below.trans ?_ (Below.mono hb1 ?_)); (rotate_left; focus (first | omega | (simp; done) | (simp; omega))))))⟩
    | 1, _ =>
      simp only [kOf, nOf, cT]
      have hix : ∀ w, (Instr.index 73 (.agg #[.string ⟨#[]⟩, .string ⟨#[]⟩, .string ⟨#[]⟩, .string ⟨#[32, 42, 94, 32]⟩, .string ⟨#[32, 47, 94, 32]⟩]) (.int .i64 3)).run Try.prog w = .ok (.string ⟨#[32, 42, 94, 32]⟩) w := fun w => by kernel_rfl
      by_cases hp : pB l = true
      · obtain ⟨q1, q2⟩ := hk.2 hp
        simp only [if_pos hp]
        have e2 : ByteArray.size ⟨#[40]⟩ = 1 := rfl
        have e3 : ByteArray.size ⟨#[41]⟩ = 1 := rfl
        have e4 : ByteArray.size ⟨#[32, 42, 94, 32]⟩ = 4 := rfl
        have e5 : ByteArray.size ⟨#[50]⟩ = 1 := rfl
        have A1 := fun w => run_string_add_sum (P := Try.prog) w (⟨#[40]⟩ ++ cT l ++ ⟨#[41]⟩) ⟨#[32, 42, 94, 32]⟩ (by (try simp only [size_app]); omega)
        have A2 := fun w => run_string_add_sum (P := Try.prog) w (⟨#[40]⟩ ++ cT l ++ ⟨#[41]⟩ ++ ⟨#[32, 42, 94, 32]⟩) ⟨#[50]⟩ (by (try simp only [size_app]); omega)
        clear e2 e3 e4 e5
        clear hk hlow hp
        go_enter Try.func10, Try.ntmps10
        repeat' (first | (go_at_call 10; refine (HI.out _ ?_).mono ?_; exact (by repeat (first | (with_reducible exact Below.refl _ _) | ((with_reducible refine below_setAt ?_ ?_ _); (rotate_left; focus (first | omega | (simp; done) | (simp; omega)))) | ((with_reducible refine Below.alloc ?_ ?_ _); (rotate_left; focus (first | omega | (simp; done) | (simp; omega)))) | (with_reducible refine below_drewN ?_ _) | (with_reducible refine Below.drew ?_))); rintro e w1 ⟨rfl, hb1⟩; obtain ⟨hc1, hf1⟩ := bcell hb1; have l1 : w.heap.size + 1 < w1.heap.size := sz_of hb1 (by simp)) | go_values | go_skip | go_guarded | go_step | go_upon | (simp only [Int.not_lt, Int.not_le] at *; go_simp) | (go_values <;> (try go_simp)) | (go_ite <;> go_prune <;> (try go_simp)) | (split <;> (first | (rename_i hx; exact (hx _ rfl).elim) | go_prune)))
        have s0 : w1.cell? ⟨w.heap.size, 0, none⟩ = some (.int .i64 3) := (hc1 w.heap.size 0 (by simp; omega)).trans (by go_simp)
        have s2 : w1.cell? ⟨w.heap.size, 2, none⟩ = some (.int .i64 2) := (hc1 w.heap.size 2 (by simp; omega)).trans (by go_simp)
        have l0 : w.heap.size < w1.heap.size := Nat.lt_of_succ_lt l1
        go_region_held3 (fun w' => w'.cell? ⟨w.heap.size, 0, none⟩ = some (.int .i64 3) ∧ w'.cell? ⟨w.heap.size, 2, none⟩ = some (.int .i64 2)) (go_keep) (first | (go_at_call 18; refine (digits_2 _).mono ?_; rintro e w2 ⟨rfl, hb2⟩; have k0 : w2.cell? ⟨w.heap.size, 0, none⟩ = some (.int .i64 3) := ((hb2.cell (p := ⟨w.heap.size, 0, none⟩) (by simp; omega)).trans (by go_simp)); have k2 : w2.cell? ⟨w.heap.size, 2, none⟩ = some (.int .i64 2) := ((hb2.cell (p := ⟨w.heap.size, 2, none⟩) (by simp; omega)).trans (by go_simp))))
        all_goals (go_wp2; go_ret; exact ⟨rfl, (by repeat (first | (with_reducible exact Below.refl _ _) | ((with_reducible refine below_setAt ?_ ?_ _); (rotate_left; focus (first | omega | (simp; done) | (simp; omega)))) | ((with_reducible refine Below.alloc ?_ ?_ _); (rotate_left; focus (first | omega | (simp; done) | (simp; omega)))) | (with_reducible refine below_drewN ?_ _) | (with_reducible refine Below.drew ?_) | ((with_reducible refine Below.trans ?_ (Below.mono hb2 ?_)); (rotate_left; focus (first | omega | (simp; done) | (simp; omega)))) | ((with_reducible refine Below.trans ?_ (Below.mono hb1 ?_)); (rotate_left; focus (first | omega | (simp; done) | (simp; omega))))))⟩)
      · have hp' : pB l = false := by simpa using hp
        have q1 := hlow hp'
        simp only [if_neg hp]
        have e2 : ByteArray.size ⟨#[40]⟩ = 1 := rfl
        have e3 : ByteArray.size ⟨#[41]⟩ = 1 := rfl
        have e4 : ByteArray.size ⟨#[32, 42, 94, 32]⟩ = 4 := rfl
        have e5 : ByteArray.size ⟨#[50]⟩ = 1 := rfl
        have A1 := fun w => run_string_add_sum (P := Try.prog) w (cT l) ⟨#[32, 42, 94, 32]⟩ (by (try simp only [size_app]); omega)
        have A2 := fun w => run_string_add_sum (P := Try.prog) w (cT l ++ ⟨#[32, 42, 94, 32]⟩) ⟨#[50]⟩ (by (try simp only [size_app]); omega)
        clear e2 e3 e4 e5
        clear hk hlow hp hp'
        go_enter Try.func10, Try.ntmps10
        repeat' (first | (go_at_call 10; refine (HI.out _ ?_).mono ?_; exact (by repeat (first | (with_reducible exact Below.refl _ _) | ((with_reducible refine below_setAt ?_ ?_ _); (rotate_left; focus (first | omega | (simp; done) | (simp; omega)))) | ((with_reducible refine Below.alloc ?_ ?_ _); (rotate_left; focus (first | omega | (simp; done) | (simp; omega)))) | (with_reducible refine below_drewN ?_ _) | (with_reducible refine Below.drew ?_))); rintro e w1 ⟨rfl, hb1⟩; obtain ⟨hc1, hf1⟩ := bcell hb1; have l1 : w.heap.size + 1 < w1.heap.size := sz_of hb1 (by simp)) | go_values | go_skip | go_guarded | go_step | go_upon | (simp only [Int.not_lt, Int.not_le] at *; go_simp) | (go_values <;> (try go_simp)) | (go_ite <;> go_prune <;> (try go_simp)) | (split <;> (first | (rename_i hx; exact (hx _ rfl).elim) | go_prune)))
        have s0 : w1.cell? ⟨w.heap.size, 0, none⟩ = some (.int .i64 3) := (hc1 w.heap.size 0 (by simp; omega)).trans (by go_simp)
        have s2 : w1.cell? ⟨w.heap.size, 2, none⟩ = some (.int .i64 2) := (hc1 w.heap.size 2 (by simp; omega)).trans (by go_simp)
        have l0 : w.heap.size < w1.heap.size := Nat.lt_of_succ_lt l1
        go_region_held3 (fun w' => w'.cell? ⟨w.heap.size, 0, none⟩ = some (.int .i64 3) ∧ w'.cell? ⟨w.heap.size, 2, none⟩ = some (.int .i64 2)) (go_keep) (first | (go_at_call 18; refine (digits_2 _).mono ?_; rintro e w2 ⟨rfl, hb2⟩; have k0 : w2.cell? ⟨w.heap.size, 0, none⟩ = some (.int .i64 3) := ((hb2.cell (p := ⟨w.heap.size, 0, none⟩) (by simp; omega)).trans (by go_simp)); have k2 : w2.cell? ⟨w.heap.size, 2, none⟩ = some (.int .i64 2) := ((hb2.cell (p := ⟨w.heap.size, 2, none⟩) (by simp; omega)).trans (by go_simp))))
        all_goals (go_wp2; go_ret; exact ⟨rfl, (by repeat (first | (with_reducible exact Below.refl _ _) | ((with_reducible refine below_setAt ?_ ?_ _); (rotate_left; focus (first | omega | (simp; done) | (simp; omega)))) | ((with_reducible refine Below.alloc ?_ ?_ _); (rotate_left; focus (first | omega | (simp; done) | (simp; omega)))) | (with_reducible refine below_drewN ?_ _) | (with_reducible refine Below.drew ?_) | ((with_reducible refine Below.trans ?_ (Below.mono hb2 ?_)); (rotate_left; focus (first | omega | (simp; done) | (simp; omega)))) | ((with_reducible refine Below.trans ?_ (Below.mono hb1 ?_)); (rotate_left; focus (first | omega | (simp; done) | (simp; omega))))))⟩)

theorem text_any : ∀ (l : List Nat), l.length ≤ 1001 → TextSaid l := by
  intro l
  induction l with
  | nil => intro _; exact text_nil
  | cons o l ih => intro h; rw [List.length_cons] at h; exact text_cons o l (by omega) (ih (by omega))

end Go.Proofs.Ytlpoimagikolfaa.syn
