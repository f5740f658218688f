/-
  A map whose keys are where a list of expressions lies: what it finds, what it stores.
-/
import Derived.Test.YtlpoimagikolfaaTree
import Derived.Maps.Own
namespace Go.Proofs.Ytlpoimagikolfaa.syn
open Go.RowKit
set_option linter.unusedVariables false
set_option linter.unusedSimpArgs false

/-- Where a list lies: block, first cell, length. -/
structure Key where
  b : Nat
  o : Nat
  n : Nat
  deriving DecidableEq
def Key.v (k : Key) : Value := .agg #[.pointer (some ⟨k.b, k.o, none⟩), .int .i64 k.n]
/-- A block of cells of which nothing is frozen. -/
def Free (w : World) (b : Nat) : Prop := ∃ cs, w.heap[b]? = some (.cells cs 43 (0, 0))

theorem Free.shape {w : World} {b : Nat} (h : Free w b) : ∃ n, w.shape? b = some (43, n) := by
  obtain ⟨cs, h⟩ := h; exact ⟨cs.size, by simp [World.shape?, h]⟩
theorem Free.frozen {w : World} {b : Nat} (h : Free w b) (o : Nat) : w.frozen? ⟨b, o, none⟩ = false := by
  obtain ⟨cs, h⟩ := h; simp [World.frozen?, h]

theorem same_addr {w : World} {b1 o1 b2 o2 : Nat} (h1 : Free w b1) (h2 : Free w b2) :
    (sameAddr ⟨b1, o1, none⟩ ⟨b2, o2, none⟩).run Try.prog w = .ok (decide (b1 = b2 ∧ o1 = o2)) w := by
  by_cases hb : b1 = b2
  · subst hb
    by_cases ho : o1 = o2
    · subst ho
      simp [sameAddr]
    · have : ((⟨b1, o1, none⟩ : Addr) == ⟨b1, o2, none⟩) = false := by
        rw [beq_eq_false_iff_ne]; intro e; injection e with _ e; exact ho e
      simp [sameAddr, this, ho]
  · have hb' : (b1 == b2) = false := by simpa using hb
    obtain ⟨n1, s1⟩ := h1.shape
    obtain ⟨n2, s2⟩ := h2.shape
    have f1 := h1.frozen
    have f2 := h2.frozen
    simp [sameAddr, hb', hb, noView, viewAt, mayBeOne, stringish, s1, s2, f1, f2]

theorem eq_ptr {w : World} {b1 o1 b2 o2 : Nat} (h1 : Free w b1) (h2 : Free w b2) (d : Nat) :
    (Op.equalIn (d + 1) 76 (.pointer (some ⟨b1, o1, none⟩)) (.pointer (some ⟨b2, o2, none⟩))).run Try.prog w = .ok (decide (b1 = b2 ∧ o1 = o2)) w := by
  have hz : (sizeOf 43).run Try.prog w = .ok 6 w := by kernel_rfl
  simp [Op.equalIn, run_underlying Try.underlying76, hz, same_addr h1 h2]

theorem eq_key {w : World} (k1 k2 : Key) (h1 : Free w k1.b) (h2 : Free w k2.b) : (Op.equal 78 k1.v k2.v).run Try.prog w = .ok (decide (k1 = k2)) w := by
  have hu : Try.prog.underlying 78 = some (.struct (Try.prog.fieldsOf 78)) := by kernel_rfl
  have hs : Try.prog.stoodInHeld 78 = false := by kernel_rfl
  have hf : (Try.prog.fieldsOf 78).toList.map (fun f => (f.name, f.type, f.offset)) = [("first", 76, 0), ("length", 3, 1)] := by kernel_rfl
  obtain ⟨f1, f2, hl, n1, t1, o1, n2, t2, o2⟩ : ∃ f1 f2, (Try.prog.fieldsOf 78).toList = [f1, f2] ∧ f1.name = "first" ∧ f1.type = 76 ∧ f1.offset = 0 ∧ f2.name = "length" ∧ f2.type = 3 ∧ f2.offset = 1 := by
    generalize (Try.prog.fieldsOf 78).toList = l at hf
    cases l with
    | nil => simp at hf
    | cons f1 l =>
      cases l with
      | nil => simp at hf
      | cons f2 l =>
        cases l with
        | nil => simp at hf; exact ⟨f1, f2, rfl, hf.1.1, hf.1.2.1, hf.1.2.2, hf.2.1, hf.2.2.1, hf.2.2.2⟩
        | cons f3 l => simp at hf
  unfold Op.equal Key.v
  rw [show Op.maxDepth = 9998 + 1 + 1 from rfl, run_equalIn_agg w (9998 + 1) 78 _ _ hu hs, hl]
  have ha : (isAgg 76).run Try.prog w = .ok false w := by kernel_rfl
  have hi : (isAgg 3).run Try.prog w = .ok false w := by kernel_rfl
  have hp := eq_ptr (o1 := k1.o) (o2 := k2.o) h1 h2 9998
  have hn : (Op.equalIn (9998 + 1) 3 (.int .i64 (k1.n : Int)) (.int .i64 (k2.n : Int))).run Try.prog w = .ok ((k1.n : Int) == (k2.n : Int)) w := run_equalIn_int w 9998 3 .i64 .i64 _ _ Try.underlying3
  simp only [Op.eqFields, n1, t1, o1, n2, t2, o2]
  simp [part, ha, hi, hp, hn]
  obtain ⟨b1, o1, n1⟩ := k1
  obtain ⟨b2, o2, n2⟩ := k2
  simp only [Key.mk.injEq]
  by_cases hb : b1 = b2 <;> by_cases ho : o1 = o2 <;> by_cases hn : n1 = n2 <;> simp [hb, ho, hn] <;> omega

end Go.Proofs.Ytlpoimagikolfaa.syn
