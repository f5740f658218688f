/-
  The map of Depth: storing; making; its length.
-/
import Derived.Test.YtlpoimagikolfaaMapLook
namespace Go.Proofs.Ytlpoimagikolfaa.syn
open Go.RowKit
set_option linter.unusedVariables false
set_option linter.unusedSimpArgs false

/-- A world but for one map's entries. -/
def World.put (w : World) (mb : Nat) (o : Obj) : World := { w with heap := w.heap.setIfInBounds mb o }

theorem map_put {w : World} {mb : Nat} {L : List (Key × Int)} (h : MapIs w mb L) (k : Key) (v : Int) (hk : Free w k.b) (hf : ∀ p ∈ L, Free w p.1.b) :
    ∃ arr clock, (Instr.mapUpdate 74 (.map (some mb)) k.v (.int .i64 v)).run Try.prog w = .ok () (World.put w mb (.map arr clock)) ∧ MapIs (World.put w mb (.map arr clock)) mb (putL k v L) := by
  obtain ⟨arr, clock, hh, he⟩ := h
  have hu : (underlying 74).run Try.prog w = .ok (.map 78 3) w := by rw [run_underlying (by kernel_rfl)]
  have hg : (getObj mb).run Try.prog w = .ok (.map arr clock) w := run_getObj_map (w := w) mb arr clock hh
  have hc := check_key false k w
  have hfk := find_key k hk arr.toList L he hf
  have hlt := lt_of_block hh
  have hnew : ∀ o, (World.put w mb o).heap[mb]? = some o := by
    intro o
    show (w.heap.setIfInBounds mb o)[mb]? = some o
    rw [Array.getElem?_setIfInBounds_self_of_lt hlt]
  cases hr : findL k L 0 with
  | none =>
    refine ⟨arr.push { key := k.v, val := .int .i64 v, born := clock }, clock + 1, ?_, ⟨_, _, hnew _, ?_⟩⟩
    · simp only [Instr.mapUpdate, Sem.run_bind, hu, Result.andThen_ok, hg]
      rw [hc]
      simp only [Result.andThen_ok]
      rw [hfk, hr]
      simp only [Result.andThen_ok]
      exact Go.MapKept.run_setObj_map _ hh
    · rw [findL_none k v L 0 hr]
      simp [he]
  | some q =>
    obtain ⟨i, u⟩ := q
    obtain ⟨n, hn, x, h1, h2⟩ := findL_some k v L 0 i u hr
    obtain rfl : i = n := by omega
    have hkey : ((arr[i]?).map (·.key)).getD k.v = k.v := by
      have := congrArg (fun l => l[i]?) he
      simp only [List.getElem?_map, h1, Option.map_some] at this
      cases ha : arr[i]? with
      | none => rfl
      | some e => simp [ha] at this ⊢; exact this.1
    have hst : (Instr.keyThatStays k.v k.v).run Try.prog w = .ok k.v w := by
      unfold Instr.keyThatStays; rw [same_bits]; rfl
    refine ⟨arr.modify i fun e => { e with key := k.v, val := .int .i64 v }, clock, ?_, ⟨_, _, hnew _, ?_⟩⟩
    · simp only [Instr.mapUpdate, Sem.run_bind, hu, Result.andThen_ok, hg]
      rw [hc]
      simp only [Result.andThen_ok]
      rw [hfk, hr]
      simp only [Result.andThen_ok, Sem.run_bind, hkey]
      rw [hst]
      simp only [Result.andThen_ok]
      exact Go.MapKept.run_setObj_map _ hh
    · rw [h2, Array.toList_modify]
      apply List.ext_getElem?
      intro j
      have hj := congrArg (fun l => l[j]?) he
      simp only [List.getElem?_map, List.getElem?_modify] at hj ⊢
      by_cases hij : i = j
      · subst hij
        rw [h1] at hj ⊢
        cases ha : arr.toList[i]? with
        | none => rw [ha] at hj; simp at hj
        | some e => simp
      · simp only [hij, if_false]
        cases ha : arr.toList[j]? <;> cases hb : L[j]? <;> rw [ha, hb] at hj <;> simp at hj ⊢
        exact hj

end Go.Proofs.Ytlpoimagikolfaa.syn
