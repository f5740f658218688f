/-
  Contract of the package lex, four: value.
-/
import Derived.Test.YtlpoimagikolfaaLex3
import Derived.Test.YtlpoimagikolfaaTree
import Derived.Laws.IdiomStrings
namespace Go.Proofs.Ytlpoimagikolfaa.lex
open Go.RowKit
set_option linter.unusedVariables false
set_option linter.unusedSimpArgs false

theorem valL_snoc (l : List UInt8) (c : UInt8) (n : Int) : valL (l ++ [c]) n = min (valL l n * 10 + ((c.toNat : Int) - 48)) 1000000001 := by
  unfold valL; rw [List.foldl_append]; rfl
theorem digit_bd {c : UInt8} (h : digitB c = true) : 48 ≤ (c.toNat : Int) ∧ (c.toNat : Int) ≤ 57 := by
  unfold digitB at h; simp at h; omega
theorem valL_bd : ∀ (l : List UInt8) (n : Int), (∀ c ∈ l, digitB c = true) → 0 ≤ n → n ≤ 1000000001 → 0 ≤ valL l n ∧ valL l n ≤ 1000000001 := by
  intro l
  induction l with
  | nil => intro n _ h1 h2; exact ⟨h1, h2⟩
  | cons c l ih =>
    intro n h h1 h2
    have hc := digit_bd (h c (by simp))
    exact ih (min (n * 10 + ((c.toNat : Int) - 48)) 1000000001) (fun d hd => h d (by simp [hd])) (by omega) (by omega)
theorem take_snoc (s : ByteArray) (k : Nat) (h : k < s.size) : s.data.toList.take (k + 1) = s.data.toList.take k ++ [s[k]] := by
  rw [List.take_succ_eq_append_getElem (by simpa using h)]; rfl

set_option maxHeartbeats 1000000 in
theorem value_any (s : ByteArray) (w : World) (hs : s.size ≤ 4000) (hd : ∀ c ∈ s.data.toList, digitB c = true) :
    Calls Try.prog 22 #[.string s] w fun e w' => e = .returned (.int .i64 (valL s.data.toList 0)) ∧ Below w.heap.size w w' := by
  have hcv := fun w => run_bytes_of_string (P := Try.prog) w 9 40 5 s Try.underlying9 Try.underlying40 Try.underlying5
  have hrow : ∀ cap j (h : j < s.size), (bytesRow s cap)[j]? = some (.int .u8 (s[j].toNat : Int)) := fun cap j h => bytesRow_at s cap j (by simpa using h)
  have HRW := Lib.hid hrow
  have HD := Lib.hid hd
  clear hrow hd
  go_enter Try.func22, Try.ntmps22
  go_wp2
  generalize grownCap w s.size 0 5 = cap
  obtain ⟨fz, hfz⟩ : ∃ fz : Nat × Nat, ((bytesRow s cap).size, (bytesRow s cap).size + 1) = fz := ⟨_, rfl⟩
  rw [hfz]
  obtain ⟨row, hrw⟩ : ∃ row, bytesRow s cap = row := ⟨_, rfl⟩
  rw [hrw]
  have HC := Lib.hid (show ∀ j (h : j < s.size), row[j]? = some (.int .u8 (s[j].toNat : Int)) from fun j h => by rw [← hrw]; exact HRW.out cap j h)
  clear hfz hrw hcv
  go_loop [3, 9] (fun n i => ∃ k : Nat, k ≤ s.size ∧ i = .int .i64 k ∧ n = .int .i64 (valL (s.data.toList.take k) 0)) (fun _ i => s.size - (intOf i).toNat)
  case atStart => exact ⟨0, by omega, rfl, rfl⟩
  case round =>
    obtain ⟨k, hk, rfl, rfl⟩ := hrel
    have bd := valL_bd (s.data.toList.take k) 0 (fun c hc => HD.out c (List.mem_of_mem_take hc)) (by omega) (by omega)
    by_cases hlt : k < s.size
    · have hc := digit_bd (HD.out s[k] (by show s.data.toList[k]'(by simpa using hlt) ∈ _; exact List.getElem_mem _))
      have hcell : ∀ w : World, (w.alloc (Obj.cells row 5 fz)).cell? ⟨w.heap.size, k, none⟩ = some (.int .u8 (s[k].toNat : Int)) := by
        intro w
        simp only [World.cell?, syn.heap_new]
        exact HC.out k hlt
      have HV := Lib.hid (show valL (s.data.toList.take (k + 1)) 0 = min (valL (s.data.toList.take k) 0 * 10 + ((s[k].toNat : Int) - 48)) 1000000001 by rw [take_snoc s k hlt, valL_snoc])
      generalize hv : valL (s.data.toList.take k) 0 = v at *
      generalize (s[k].toNat : Int) = c at *
      have b1 := bd.1
      have b2 := bd.2
      have c1 := hc.1
      have c2 := hc.2
      clear bd hc hv
      go_wp2
      go_round
      case rel => exact ⟨k + 1, by omega, by go_num, by rw [HV.out]⟩
      case measure => simp [intOf]; omega
    · go_wp2
      go_ret
      exact ⟨by rw [List.take_of_length_le (by simp; omega)]; rfl, (by repeat (first | exact Below.refl _ _ | (refine Below.alloc ?_ (by simp) _) | (refine Below.drew ?_)))⟩

end Go.Proofs.Ytlpoimagikolfaa.lex
