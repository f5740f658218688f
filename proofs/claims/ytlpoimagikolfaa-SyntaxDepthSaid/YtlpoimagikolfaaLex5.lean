/-
  What a text is cut into, and the facts on it that the walk of Lex asks; Clone, Words.
-/
import Derived.Test.YtlpoimagikolfaaLex4
namespace Go.Proofs.Ytlpoimagikolfaa.lex
open Go.RowKit
set_option linter.unusedVariables false
set_option linter.unusedSimpArgs false
open syn (Tok)

theorem info36 : (Try.prog.info? 36).map (fun i => (i.zero, i.size, i.bytes)) = some (some (.agg #[.int .i64 0, .string ⟨#[]⟩, .int .i64 0, .int .i64 0]), 4, 40) := by kernel_rfl

theorem clone_any (s : ByteArray) (w : World) (hs : s.size ≤ 4000) : Calls Try.prog 21 #[.string s] w fun e w' => e = .returned (.string s) ∧ Below w.heap.size w w' := by
  have HC := Lib.hid (fun w => Try.stringslite_Clone s w (by omega))
  go_enter Try.func21, Try.ntmps21
  go_wp2_with (go_at_call 34; with_reducible refine (HC.out _).mono ?_; rintro e w1 ⟨rfl, hb1⟩)
  go_ret
  exact ⟨rfl, hb1⟩

def tokOf (p : Int × Nat) (l : List UInt8) (at_ : Nat) : Tok := ⟨p.1, ⟨(l.take p.2).toArray⟩, if p.1 = 2 then valL (l.take p.2) 0 else 0, at_⟩
/-- Tokens, the place and the number of the error (0: none). -/
def lexP : Nat → List UInt8 → Nat → List Tok → List Tok × Int × Int
  | 0, _, _, acc => (acc, 0, 0)
  | m + 1, l, k, acc =>
    if l = [] then (acc, 0, 0)
    else if (pieceL l).1 = -1 then ([], k, 1)
    else if (pieceL l).1 = 0 then lexP m (l.drop (pieceL l).2) (k + (pieceL l).2) acc
    else if 1000000000 < (tokOf (pieceL l) l k).n then ([], k, 7)
    else lexP m (l.drop (pieceL l).2) (k + (pieceL l).2) (acc ++ [tokOf (pieceL l) l k])

theorem takeWhile_len_le (f : UInt8 → Bool) (l : List UInt8) : (l.takeWhile f).length ≤ l.length := (List.takeWhile_prefix _).length_le
theorem signAt_len (c : Int) (t : Bool) : (signAt c t).1 = -1 ∨ ((signAt c t).1 = 3 ∧ 1 ≤ (signAt c t).2 ∧ ((signAt c t).2 = 1 ∨ t = true ∧ (signAt c t).2 = 2)) := by
  unfold signAt
  cases t <;> (repeat' split) <;> simp_all
theorem pieceL_bd : ∀ (l : List UInt8), l ≠ [] → (pieceL l).1 = -1 ∨ ((0 ≤ (pieceL l).1 ∧ (pieceL l).1 ≤ 3) ∧ 1 ≤ (pieceL l).2 ∧ (pieceL l).2 ≤ l.length ∧ ((pieceL l).1 = 2 → ∀ c ∈ l.take (pieceL l).2, digitB c = true)) := by
  intro l hl
  cases l with
  | nil => exact absurd rfl hl
  | cons c l =>
    unfold pieceL
    simp only
    by_cases c35 : (c.toNat : Int) = 35
    · rw [if_pos c35]
      right
      refine ⟨by omega, ?_, ?_, by omega⟩
      · have hc : (c != 10) = true := by
          have : c ≠ 10 := by intro e; subst e; exact absurd c35 (by decide)
          simpa using this
        show 1 ≤ remL (c :: l)
        unfold remL; rw [List.takeWhile_cons, hc]; simp
      · exact takeWhile_len_le _ _
    · rw [if_neg c35]
      by_cases c32 : (c.toNat : Int) = 32 ∨ (c.toNat : Int) = 9 ∨ (c.toNat : Int) = 10
      · rw [if_pos c32]; right; simp
      · rw [if_neg c32]
        by_cases hs : smallB c = true
        · rw [if_pos hs]
          right
          refine ⟨by omega, ?_, takeWhile_len_le _ _, by omega⟩
          show 1 ≤ runL ofNameB (c :: l)
          unfold runL; rw [List.takeWhile_cons, show ofNameB c = true by unfold ofNameB; rw [hs]; rfl]; simp
        · rw [if_neg hs]
          by_cases hd : digitB c = true
          · rw [if_pos hd]
            right
            refine ⟨by omega, ?_, takeWhile_len_le _ _, fun _ => ?_⟩
            · show 1 ≤ runL digitB (c :: l)
              unfold runL; rw [List.takeWhile_cons, hd]; simp
            · intro d h
              have : (c :: l).take (runL digitB (c :: l)) = (c :: l).takeWhile digitB := by
                unfold runL; exact ((List.prefix_iff_eq_take.1 (List.takeWhile_prefix _))).symm
              rw [this] at h
              exact List.all_eq_true.1 (List.all_takeWhile (p := digitB) (l := c :: l)) d h
          · rw [if_neg hd]
            unfold signL
            simp only
            rcases signAt_len c.toNat (twoB (c :: l)) with h | ⟨h1, h2, h3⟩
            · exact .inl h
            · right
              refine ⟨by omega, h2, ?_, by omega⟩
              rcases h3 with h3 | ⟨ht, h3⟩
              · rw [h3]; simp
              · rw [h3]
                cases l with
                | nil => simp [twoB] at ht
                | cons d l => simp

/-- A token's cells. -/
def cellsOf (x : Tok) : List Value := [.int .i64 x.k, .string x.t, .int .i64 x.n, .int .i64 x.a]
def cellsAll (l : List Tok) : List Value := l.flatMap cellsOf
theorem cellsAll_snoc (l : List Tok) (x : Tok) : cellsAll (l ++ [x]) = cellsAll l ++ cellsOf x := by simp [cellsAll]

theorem own_below {w w' : World} {base : Nat} {e : TypeId} {size : Nat} {v : Value} {n : Nat} {xs : List Value} (h : w.ownsRow base e size v n xs) (hb : Below w.heap.size w w') : w'.ownsRow base e size v n xs := by
  obtain ⟨h1, h2⟩ := h
  refine ⟨h1, ?_⟩
  rcases h2 with h2 | ⟨g, cap, cur, hv, hg, hh, r⟩
  · exact .inl h2
  · exact .inr ⟨g, cap, cur, hv, hg, by rw [hb.block g (lt_of_block hh)]; exact hh, r⟩

/-- What holds at the loop's head. -/
def LRel (w : World) (s : ByteArray) (fin : List Tok × Int × Int) (v i : Value) (wr : World) : Prop :=
  ∃ k acc m, k ≤ s.size ∧ i = .int .i64 (k : Int) ∧ wr.ownsRow w.heap.size 36 4 v acc.length (cellsAll acc) ∧ Below w.heap.size w wr ∧ s.size - k < m ∧ acc.length ≤ k ∧ lexP m (s.data.toList.drop k) k acc = fin

/-- What Lex answers. -/
def LexAns (w : World) (fin : List Tok × Int × Int) (e : Ending) (w' : World) : Prop :=
  ∃ v, e = .returned (.tuple #[v, .int .i64 fin.2.1, .int .i64 fin.2.2]) ∧ w'.ownsRow w.heap.size 36 4 v fin.1.length (cellsAll fin.1) ∧ Below w.heap.size w w'

theorem words_any (w : World) : Calls Try.prog 23 #[] w fun e w' => e = .returned (.slice (some ⟨w.heap.size, 0, none⟩) 10 10) ∧
    w' = w.alloc (Obj.cells #[.string ⟨#[110, 111, 100, 101]⟩, .string ⟨#[98, 117, 100, 103, 101, 116]⟩, .string ⟨#[105, 110, 112, 117, 116]⟩, .string ⟨#[112, 101, 114, 105, 111, 100]⟩, .string ⟨#[112, 104, 97, 115, 101]⟩, .string ⟨#[102, 108, 111, 119]⟩, .string ⟨#[102, 98, 121]⟩, .string ⟨#[116, 97, 105, 108]⟩, .string ⟨#[111, 117, 116, 112, 117, 116]⟩, .string ⟨#[100, 101, 97, 100, 108, 105, 110, 101]⟩] 9) := by
  go_enter Try.func23, Try.ntmps23
  go_wp2
  go_ret
  exact ⟨rfl, rfl⟩

end Go.Proofs.Ytlpoimagikolfaa.lex
