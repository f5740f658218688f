/-
  How many tokens the reader takes.
-/
import Derived.Test.YtlpoimagikolfaaWhole
namespace Go.Proofs.Ytlpoimagikolfaa.syn
open Go.RowKit
set_option linter.unusedVariables false
set_option linter.unusedSimpArgs false

/-- Where nothing is wrong behind it, k tokens were taken, at least. -/
def Adv (S S' : St) (k : Nat) : Prop := S'.err = 0 → S.err = 0 ∧ S'.toks.length + k ≤ S.toks.length
theorem Adv.refl (S : St) : Adv S S 0 := fun h => ⟨h, by omega⟩
theorem Adv.trans {a b c : St} {k l : Nat} (h : Adv a b k) (h' : Adv b c l) : Adv a c (k + l) := fun e => by
  obtain ⟨e1, h1⟩ := h' e
  obtain ⟨e2, h2⟩ := h e1
  exact ⟨e2, by omega⟩
theorem Adv.less {a b : St} {k l : Nat} (h : Adv a b k) (hl : l ≤ k) : Adv a b l := fun e => ⟨(h e).1, by have := (h e).2; omega⟩
theorem fail_err (a e : Int) (S : St) (he : e ≠ 0) : (S.fail a e).err ≠ 0 := by
  unfold St.fail; split
  · exact he
  · assumption
theorem adv_fail (a e : Int) (S : St) (he : e ≠ 0) (k : Nat) : Adv S (S.fail a e) k := fun h => (fail_err a e S he h).elim
theorem adv_next {S : St} (h : S.toks ≠ []) : Adv S S.next 1 := fun e => ⟨e, by
  show S.toks.tail.length + 1 ≤ _
  cases hS : S.toks with
  | nil => exact (h hS).elim
  | cons x l => simp⟩
theorem adv_need {S : St} {en : Int} {b : Bool} (hb : b = true → S.toks ≠ []) : Adv S (S.need en b).2 1 := by
  unfold St.need
  cases b with
  | true => exact adv_next (hb rfl)
  | false => exact fun h => (fail_err _ 1 S (by decide) h).elim
theorem toks_sees {S : St} {en : Int} {zs : List ByteArray} (hz : (⟨#[]⟩ : ByteArray) ∉ zs) (h : seesP en zs S = true) : S.toks ≠ [] := by
  intro hS
  have := (Lib.containsS_iff _ _).1 (show Lib.containsS zs (S.peek en).t = true from h)
  unfold St.peek at this
  rw [hS] at this
  exact hz this
theorem toks_kind {S : St} {en : Int} {k : Int} (hk : k ≠ 0) (h : ((S.peek en).k == k) = true) : S.toks ≠ [] := by
  intro hS
  unfold St.peek at h
  rw [hS] at h
  simp at h
  exact hk h.symm
theorem adv_want {S : St} {en : Int} {zs : List ByteArray} (hz : (⟨#[]⟩ : ByteArray) ∉ zs) : Adv S (S.want en zs).2 1 := adv_need (fun h => toks_sees hz h)
theorem adv_name {S : St} {en : Int} : Adv S (S.name en).2 1 := adv_need (fun h => by
  unfold nameB at h
  rw [Bool.and_eq_true] at h
  exact toks_kind (by decide) h.1)
theorem adv_num {S : St} {en : Int} : Adv S (S.num en).2 1 := adv_need (fun h => toks_kind (by decide) h)
theorem adv_number {S : St} {en lo hi : Int} : Adv S (S.number en lo hi).2 1 := by
  unfold St.number
  simp only
  split
  · exact (adv_num.trans (adv_fail _ 7 _ (by decide) 0)).less (by omega)
  · exact adv_num
theorem adv_signed {S : St} {en : Int} : Adv S (S.signed en).2 1 := by
  unfold St.signed
  split
  · rename_i h
    exact ((adv_next (toks_sees (by simp [minus]) h)).trans adv_num).less (by omega)
  · exact adv_num
theorem adv_whole {S : St} {e : PE} : Adv S (S.whole e) 0 := by
  unfold St.whole
  split
  · exact adv_fail _ 2 _ (by decide) 0
  · exact Adv.refl _

end Go.Proofs.Ytlpoimagikolfaa.syn
