/-
  The reference's look at names: small, digit, Word, Right.
-/
import Derived.Test.YtjcmjlkihfcdcaaBase
namespace Go.Proofs.Ytjcmjlkihfcdcaa.syn
open Go.RowKit lex
set_option linter.unusedVariables false
set_option linter.unusedSimpArgs false

theorem rsmall_any (c : UInt8) (w : World) : Calls Try.prog 33 #[.int .u8 (c.toNat : Int)] w fun e w' => e = .returned (.bool (smallB c)) ∧ w = w' := by
  unfold smallB
  generalize (c.toNat : Int) = n
  by_cases h1 : (97 : Int) ≤ n
  · by_cases h2 : n ≤ 122
    · have E := Lib.hid (show (decide ((97 : Int) ≤ n) && decide (n ≤ 122)) = true by simp; omega)
      go_enter Try.func33, Try.ntmps33
      go_wp2
      go_ret
      exact ⟨by rw [E.out]; first | rfl | (simp; omega), rfl⟩
    · have E := Lib.hid (show (decide ((97 : Int) ≤ n) && decide (n ≤ 122)) = false by simp; omega)
      have h2' : 122 < n := by omega
      clear h2
      go_enter Try.func33, Try.ntmps33
      go_wp2
      go_ret
      exact ⟨by rw [E.out]; first | rfl | (simp; omega), rfl⟩
  · have E := Lib.hid (show (decide ((97 : Int) ≤ n) && decide (n ≤ 122)) = false by simp; omega)
    have h1' : n < 97 := by omega
    clear h1
    go_enter Try.func33, Try.ntmps33
    go_wp2
    go_ret
    exact ⟨by rw [E.out]; first | rfl | (simp; omega), rfl⟩

theorem rdigit_any (c : UInt8) (w : World) : Calls Try.prog 34 #[.int .u8 (c.toNat : Int)] w fun e w' => e = .returned (.bool (digitB c)) ∧ w = w' := by
  unfold digitB
  generalize (c.toNat : Int) = n
  by_cases h1 : (48 : Int) ≤ n
  · by_cases h2 : n ≤ 57
    · have E := Lib.hid (show (decide ((48 : Int) ≤ n) && decide (n ≤ 57)) = true by simp; omega)
      go_enter Try.func34, Try.ntmps34
      go_wp2
      go_ret
      exact ⟨by rw [E.out]; first | rfl | (simp; omega), rfl⟩
    · have E := Lib.hid (show (decide ((48 : Int) ≤ n) && decide (n ≤ 57)) = false by simp; omega)
      have h2' : 57 < n := by omega
      clear h2
      go_enter Try.func34, Try.ntmps34
      go_wp2
      go_ret
      exact ⟨by rw [E.out]; first | rfl | (simp; omega), rfl⟩
  · have E := Lib.hid (show (decide ((48 : Int) ≤ n) && decide (n ≤ 57)) = false by simp; omega)
    have h1' : n < 48 := by omega
    clear h1
    go_enter Try.func34, Try.ntmps34
    go_wp2
    go_ret
    exact ⟨by rw [E.out]; first | rfl | (simp; omega), rfl⟩


theorem ret_bool {a b : Bool} (h : a = b) : Ending.returned (.bool a) = .returned (.bool b) := by rw [h]

def WdsR : Obj := .cells #[.string ⟨#[110, 111, 100, 101]⟩, .string ⟨#[98, 117, 100, 103, 101, 116]⟩, .string ⟨#[105, 110, 112, 117, 116]⟩, .string ⟨#[112, 101, 114, 105, 111, 100]⟩, .string ⟨#[112, 104, 97, 115, 101]⟩, .string ⟨#[102, 108, 111, 119]⟩, .string ⟨#[102, 98, 121]⟩, .string ⟨#[116, 97, 105, 108]⟩, .string ⟨#[111, 117, 116, 112, 117, 116]⟩, .string ⟨#[100, 101, 97, 100, 108, 105, 110, 101]⟩] 9
theorem words_at (w : World) (j : Nat) (hj : j < 10) : (w.alloc WdsR).cell? ⟨w.heap.size, j, none⟩ = some (.string (wordsL.getD j ByteArray.empty)) := by
  have hb : (w.alloc WdsR).heap[w.heap.size]? = some WdsR := heap_new w WdsR
  have hb' := hb
  unfold WdsR at hb'
  have hcw := fun o => cell_of_row _ w.heap.size o _ _ _ hb'
  unfold WdsR
  rw [hcw]
  match j, hj with
  | 0, _ => rfl
  | 1, _ => rfl
  | 2, _ => rfl
  | 3, _ => rfl
  | 4, _ => rfl
  | 5, _ => rfl
  | 6, _ => rfl
  | 7, _ => rfl
  | 8, _ => rfl
  | 9, _ => rfl
  | j + 10, h => omega

theorem str_beq (a b : ByteArray) : (a.toList == b.toList) = decide (a = b) := by
  rw [Lib.toList_data, Lib.toList_data]
  obtain ⟨⟨x⟩⟩ := a
  obtain ⟨⟨y⟩⟩ := b
  by_cases h : x = y
  · subst h; simp
  · have : ¬ ((⟨⟨x⟩⟩ : ByteArray) = ⟨⟨y⟩⟩) := by intro e; injection e with e; injection e with e; exact h e
    rw [decide_eq_false this]; simpa using h

def wordB (s : ByteArray) : Bool := Lib.containsS wordsL s
theorem wordB_of {s : ByteArray} {k : Nat} (hk : k < 10) (h : wordsL.getD k ByteArray.empty = s) : wordB s = true := by
  refine (Lib.containsS_iff _ _).2 ?_
  rw [← h, List.getD_eq_getElem?_getD, List.getElem?_eq_getElem (show k < wordsL.length from hk), Option.getD_some]
  exact List.getElem_mem _
theorem wordB_not {s : ByteArray} (h : ∀ j, j < 10 → wordsL.getD j ByteArray.empty ≠ s) : wordB s = false := by
  cases hb : wordB s with
  | false => rfl
  | true =>
    obtain ⟨j, hj, he⟩ := List.getElem_of_mem ((Lib.containsS_iff _ _).1 hb)
    refine (h j hj ?_).elim
    rw [List.getD_eq_getElem?_getD, List.getElem?_eq_getElem hj, Option.getD_some]; exact he

theorem word_any (s : ByteArray) (w : World) : Calls Try.prog 35 #[.string s] w fun e w' => e = .returned (.bool (wordB s)) ∧ Below w.heap.size w w' := by
  obtain ⟨wb, hwb⟩ : ∃ b, wordB s = b := ⟨_, rfl⟩
  rw [hwb]
  have HWB := Lib.hid hwb
  clear hwb
  have HW := Lib.hid (fun w => lex.words_any w)
  go_enter Try.func35, Try.ntmps35
  go_wp2_with (go_at_call 47; (with_reducible refine (HW.out _).mono ?_); rintro e w1 ⟨rfl, rfl⟩)
  go_loop [4] (fun i => ∃ k : Nat, k ≤ 10 ∧ i = .int .i64 (k : Int) ∧ Hid (∀ j, j < k → wordsL.getD j ByteArray.empty ≠ s)) (fun i => 10 - (intOf i).toNat)
  case atStart => exact ⟨0, by omega, rfl, fun j hj => by omega⟩
  case round =>
    obtain ⟨k, hk, rfl, hno⟩ := hrel
    by_cases hlt : k < 10
    · have hcell := words_at w k hlt
      unfold WdsR at hcell
      obtain ⟨x, hx⟩ : ∃ x, wordsL.getD k ByteArray.empty = x := ⟨_, rfl⟩
      rw [hx] at hcell
      have hb := str_beq x s
      have HX := Lib.hid hx
      clear hx
      by_cases he : x = s
      · rw [decide_eq_true he] at hb
        have HE := Lib.hid he
        clear he
        go_wp2
        go_ret
        exact ⟨ret_bool (by rw [← HWB.out, wordB_of hlt (HX.out.trans HE.out)]), (by repeat (first | (with_reducible exact Below.refl _ _) | ((with_reducible refine below_setAt ?_ ?_ _); (rotate_left; focus (first | omega | (simp; done) | (simp; omega)))) | ((with_reducible refine Below.alloc ?_ ?_ _); (rotate_left; focus (first | omega | (simp; done) | (simp; omega)))) | (with_reducible refine below_drewN ?_ _) | (with_reducible refine Below.drew ?_)))⟩
      · rw [decide_eq_false he] at hb
        have HE := Lib.hid he
        clear he
        go_wp2
        go_round
        case rel => exact ⟨k + 1, by omega, by go_num, fun j hj => by by_cases h : j < k; (· exact hno.out j h); (· obtain rfl : j = k := (by omega); rw [HX.out]; exact HE.out)⟩
        case measure => simp [intOf]; omega
    · go_wp2
      go_ret
      exact ⟨ret_bool (by rw [← HWB.out, wordB_not (fun j hj => hno.out j (by omega))]), (by repeat (first | (with_reducible exact Below.refl _ _) | ((with_reducible refine below_setAt ?_ ?_ _); (rotate_left; focus (first | omega | (simp; done) | (simp; omega)))) | ((with_reducible refine Below.alloc ?_ ?_ _); (rotate_left; focus (first | omega | (simp; done) | (simp; omega)))) | (with_reducible refine below_drewN ?_ _) | (with_reducible refine Below.drew ?_)))⟩

/-- May a byte stand in a name (at its head)? -/
def okB (first : Bool) (c : UInt8) : Bool := smallB c || (!first && (digitB c || (c.toNat : Int) == 95))
def okL : Bool → List UInt8 → Bool
  | _, [] => true
  | first, c :: l => okB first c && okL false l
/-- May a string be a name? -/
def nameOK (s : ByteArray) : Bool := okL true s.data.toList && !s.data.toList.isEmpty && decide (s.size ≤ 100) && !wordB s

theorem drop_byte {s : ByteArray} {k : Nat} (h : k < s.size) : s.data.toList.drop k = s[k] :: s.data.toList.drop (k + 1) := by
  rw [List.drop_eq_getElem_cons (by simpa using h)]; rfl
theorem nameOK_no {s : ByteArray} (h : okL true s.data.toList = false) : nameOK s = false := by unfold nameOK; rw [h]; rfl

set_option maxHeartbeats 1000000 in
theorem right_any (s : ByteArray) (w : World) (hs : s.size ≤ 9223372036854775807) : Calls Try.prog 13 #[.string s] w fun e w' => e = .returned (.bool (nameOK s)) ∧ Below w.heap.size w w' := by
  obtain ⟨nb, hnb⟩ : ∃ b, nameOK s = b := ⟨_, rfl⟩
  rw [hnb]
  have HNB := Lib.hid hnb
  clear hnb
  go_enter Try.func13, Try.ntmps13
  go_wp2
  go_loop [3] (fun i => ∃ k : Nat, k ≤ s.size ∧ i = .int .i64 (k : Int) ∧ Hid (okL true s.data.toList = okL (decide (k = 0)) (s.data.toList.drop k))) (fun i => s.size - (intOf i).toNat)
  case atStart => exact ⟨0, by omega, rfl, rfl⟩
  case round =>
    obtain ⟨k, hk, rfl, hok⟩ := hrel
    by_cases hlt : k < s.size
    · have HD := Lib.hid (drop_byte hlt)
      have HS := Lib.hid (fun w => rsmall_any s[k] w)
      have HG := Lib.hid (fun w => rdigit_any s[k] w)
      have HOK := Lib.hid hok.out
      clear hok
      have hOK := HOK.out
      rw [HD.out, okL] at hOK
      cases h1 : smallB s[k] with
      | true =>
        rw [h1] at HS
        have HN := Lib.hid (show okL true s.data.toList = okL (decide (k + 1 = 0)) (s.data.toList.drop (k + 1)) by rw [hOK]; unfold okB; rw [h1]; simp)
        clear hOK h1
        go_wp2_with (first | (go_at_call 33; with_reducible refine (HS.out _).mono ?_; rintro e w' ⟨rfl, rfl⟩))
        go_round
        case rel => exact ⟨k + 1, by omega, by go_num, HN.out⟩
        case measure => simp [intOf]; omega
      | false =>
        rw [h1] at HS
        by_cases h0 : k = 0
        · have HN := Lib.hid (show okL true s.data.toList = false by rw [hOK]; unfold okB; rw [h1, decide_eq_true h0]; simp)
          have hk0 : ((k : Int) == 0) = true := by rw [beq_iff_eq]; omega
          clear hOK h1 h0
          go_wp2_with (first | (go_at_call 33; with_reducible refine (HS.out _).mono ?_; rintro e w' ⟨rfl, rfl⟩))
          go_ret
          exact ⟨ret_bool (by rw [← HNB.out, nameOK_no HN.out]), (by repeat (first | (with_reducible exact Below.refl _ _) | ((with_reducible refine below_setAt ?_ ?_ _); (rotate_left; focus (first | omega | (simp; done) | (simp; omega)))) | ((with_reducible refine Below.alloc ?_ ?_ _); (rotate_left; focus (first | omega | (simp; done) | (simp; omega)))) | (with_reducible refine below_drewN ?_ _) | (with_reducible refine Below.drew ?_)))⟩
        · have hk0 : ((k : Int) == 0) = false := by rw [beq_eq_false_iff_ne]; omega
          cases h2 : digitB s[k] with
          | true =>
            rw [h2] at HG
            have HN := Lib.hid (show okL true s.data.toList = okL (decide (k + 1 = 0)) (s.data.toList.drop (k + 1)) by rw [hOK]; unfold okB; rw [h1, h2, decide_eq_false h0]; simp)
            clear hOK h1 h2
            go_wp2_with (first | (go_at_call 33; with_reducible refine (HS.out _).mono ?_; rintro e w' ⟨rfl, rfl⟩) | (go_at_call 34; with_reducible refine (HG.out _).mono ?_; rintro e w' ⟨rfl, rfl⟩))
            go_round
            case rel => exact ⟨k + 1, by omega, by go_num, HN.out⟩
            case measure => simp [intOf]; omega
          | false =>
            rw [h2] at HG
            by_cases h3 : (s[k].toNat : Int) = 95
            · have h3' : ((s[k].toNat : Int) == 95) = true := by rw [beq_iff_eq]; exact h3
              have h4' : ((s[k].toNat : Int) != 95) = false := by rw [bne, h3']; rfl
              have HN := Lib.hid (show okL true s.data.toList = okL (decide (k + 1 = 0)) (s.data.toList.drop (k + 1)) by rw [hOK]; unfold okB; rw [h1, h2, h3', decide_eq_false h0]; simp)
              clear hOK h1 h2 h3
              go_wp2_with (first | (go_at_call 33; with_reducible refine (HS.out _).mono ?_; rintro e w' ⟨rfl, rfl⟩) | (go_at_call 34; with_reducible refine (HG.out _).mono ?_; rintro e w' ⟨rfl, rfl⟩))
              go_round
              case rel => exact ⟨k + 1, by omega, by go_num, HN.out⟩
              case measure => simp [intOf]; omega
            · have h3' : ((s[k].toNat : Int) == 95) = false := by rw [beq_eq_false_iff_ne]; exact h3
              have h4' : ((s[k].toNat : Int) != 95) = true := by rw [bne, h3']; rfl
              have HN := Lib.hid (show okL true s.data.toList = false by rw [hOK]; unfold okB; rw [h1, h2, h3', decide_eq_false h0]; simp)
              clear hOK h1 h2 h3
              go_wp2_with (first | (go_at_call 33; with_reducible refine (HS.out _).mono ?_; rintro e w' ⟨rfl, rfl⟩) | (go_at_call 34; with_reducible refine (HG.out _).mono ?_; rintro e w' ⟨rfl, rfl⟩))
              go_ret
              exact ⟨ret_bool (by rw [← HNB.out, nameOK_no HN.out]), (by repeat (first | (with_reducible exact Below.refl _ _) | ((with_reducible refine below_setAt ?_ ?_ _); (rotate_left; focus (first | omega | (simp; done) | (simp; omega)))) | ((with_reducible refine Below.alloc ?_ ?_ _); (rotate_left; focus (first | omega | (simp; done) | (simp; omega)))) | (with_reducible refine below_drewN ?_ _) | (with_reducible refine Below.drew ?_)))⟩
    · have hke : k = s.size := by omega
      have hok1 : okL true s.data.toList = true := by
        rw [hok.out, List.drop_eq_nil_of_le (by simp [hke])]; rfl
      have HWd := Lib.hid (fun w => word_any s w)
      have HOK := Lib.hid hok1
      clear hok hok1
      by_cases he : s.data.toList = []
      · have he1 : s.toList = [] := by rw [Lib.toList_data]; exact he
        have he2 : (!s.toList.isEmpty) = false := by rw [he1]; rfl
        have HE := Lib.hid he
        clear he
        go_wp2_with (first | (go_at_call 35; with_reducible refine (HWd.out _).mono ?_; rintro e w1 ⟨rfl, hb1⟩))
        go_ret
        exact ⟨ret_bool (by rw [← HNB.out]; unfold nameOK; rw [HE.out]; simp), (by repeat (first | (with_reducible exact Below.refl _ _) | ((with_reducible refine below_setAt ?_ ?_ _); (rotate_left; focus (first | omega | (simp; done) | (simp; omega)))) | ((with_reducible refine Below.alloc ?_ ?_ _); (rotate_left; focus (first | omega | (simp; done) | (simp; omega)))) | (with_reducible refine below_drewN ?_ _) | (with_reducible refine Below.drew ?_)))⟩
      · have he1 : s.toList.isEmpty = false := by rw [Lib.toList_data]; simpa using he
        have he2 : ¬ s.toList = [] := by rw [Lib.toList_data]; exact he
        have he3 : s.data.toList.isEmpty = false := by simpa using he
        have HE := Lib.hid he3
        clear he he3
        by_cases h100 : s.size ≤ 100
        · have h100' : (s.size : Int) ≤ 100 := by omega
          go_wp2_with (first | (go_at_call 35; with_reducible refine (HWd.out _).mono ?_; rintro e w1 ⟨rfl, hb1⟩))
          go_ret
          exact ⟨ret_bool (by rw [← HNB.out]; unfold nameOK; rw [HOK.out, HE.out, decide_eq_true h100]; simp), (by repeat (first | (with_reducible exact Below.refl _ _) | ((with_reducible refine below_setAt ?_ ?_ _); (rotate_left; focus (first | omega | (simp; done) | (simp; omega)))) | ((with_reducible refine Below.alloc ?_ ?_ _); (rotate_left; focus (first | omega | (simp; done) | (simp; omega)))) | (with_reducible refine below_drewN ?_ _) | (with_reducible refine Below.drew ?_) | ((with_reducible refine Below.trans ?_ (Below.mono hb1 ?_)); (rotate_left; focus (first | omega | (simp; done) | (simp; omega))))))⟩
        · have h100' : (100 : Int) < (s.size : Int) := by omega
          go_wp2_with (first | (go_at_call 35; with_reducible refine (HWd.out _).mono ?_; rintro e w1 ⟨rfl, hb1⟩))
          go_ret
          exact ⟨ret_bool (by rw [← HNB.out]; unfold nameOK; rw [decide_eq_false h100]; simp), (by repeat (first | (with_reducible exact Below.refl _ _) | ((with_reducible refine below_setAt ?_ ?_ _); (rotate_left; focus (first | omega | (simp; done) | (simp; omega)))) | ((with_reducible refine Below.alloc ?_ ?_ _); (rotate_left; focus (first | omega | (simp; done) | (simp; omega)))) | (with_reducible refine below_drewN ?_ _) | (with_reducible refine Below.drew ?_)))⟩

end Go.Proofs.Ytjcmjlkihfcdcaa.syn
