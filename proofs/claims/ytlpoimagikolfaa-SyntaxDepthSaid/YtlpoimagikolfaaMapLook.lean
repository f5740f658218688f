/-
  The map of Depth: looking up, storing.
-/
import Derived.Test.YtlpoimagikolfaaMapKey
import Derived.MapKept
namespace Go.Proofs.Ytlpoimagikolfaa.syn
open Go.RowKit
set_option linter.unusedVariables false
set_option linter.unusedSimpArgs false

def findL (k : Key) : List (Key × Int) → Nat → Option (Nat × Value)
  | [], _ => none
  | p :: L, i => if k = p.1 then some (i, .int .i64 p.2) else findL k L (i + 1)

theorem find_asking {w : World} (k : Key) (hk : Free w k.b) : ∀ (es : List MapEntry) (L : List (Key × Int)) (i : Nat), es.map (fun e => (e.key, e.val)) = L.map (fun p => (p.1.v, Value.int .i64 p.2)) → (∀ p ∈ L, Free w p.1.b) →
    (Instr.findAsking 78 k.v es i).run Try.prog w = .ok (findL k L i) w := by
  intro es
  induction es with
  | nil => intro L i h _; cases L with
    | nil => rfl
    | cons p L => simp at h
  | cons e es ih =>
    intro L i h hf
    cases L with
    | nil => simp at h
    | cons p L =>
      simp only [List.map_cons, List.cons.injEq, Prod.mk.injEq] at h
      obtain ⟨⟨h1, h2⟩, h3⟩ := h
      have e1 := eq_key k p.1 hk (hf p (by simp))
      rw [← h1] at e1
      have e2 := ih L (i + 1) h3 (fun q hq => hf q (by simp [hq]))
      simp only [Instr.findAsking, Sem.run_bind, e1, Result.andThen_ok, findL]
      by_cases hkp : k = p.1
      · simp [hkp, h2]
      · simp [hkp, e2]

theorem find_now (k : Key) (e : MapEntry) (es : List MapEntry) (d : TypeDesc) (i : Nat) : Instr.findNow d k.v (e :: es) i = none := by
  unfold Instr.findNow Instr.sameNow Key.v
  split
  · rename_i h; split at h <;> simp_all
  · rename_i h; split at h <;> simp_all
  · rfl

theorem find_key {w : World} (k : Key) (hk : Free w k.b) (es : List MapEntry) (L : List (Key × Int)) (h : es.map (fun e => (e.key, e.val)) = L.map (fun p => (p.1.v, Value.int .i64 p.2))) (hf : ∀ p ∈ L, Free w p.1.b) :
    (Instr.findKey 78 k.v es).run Try.prog w = .ok (findL k L 0) w := by
  have hu : (underlying 78).run Try.prog w = .ok (.struct (Try.prog.fieldsOf 78)) w := by
    rw [run_underlying (by kernel_rfl)]
  unfold Instr.findKey
  simp only [Sem.run_bind, hu, Result.andThen_ok]
  cases es with
  | nil => cases L with
    | nil => rfl
    | cons p L => simp at h
  | cons e es =>
    rw [find_now]
    exact find_asking k hk _ _ 0 h hf

theorem check_key (b : Bool) (k : Key) (w : World) : (Instr.checkKey b 10000 78 k.v).run Try.prog w = .ok () w := by
  obtain ⟨kb, ko, kn⟩ := k
  cases b <;> kernel_rfl

/-- A map from places to numbers. -/
def MapIs (w : World) (mb : Nat) (L : List (Key × Int)) : Prop :=
  ∃ arr clock, w.heap[mb]? = some (.map arr clock) ∧ arr.toList.map (fun e => (e.key, e.val)) = L.map (fun p => (p.1.v, Value.int .i64 p.2))

def getI (k : Key) (L : List (Key × Int)) : Int := match L.find? (fun p => k = p.1) with | some p => p.2 | none => 0
theorem findL_get (k : Key) : ∀ (L : List (Key × Int)) (i : Nat), (match findL k L i with | some (_, v) => v | none => .int .i64 0) = Value.int .i64 (getI k L) := by
  intro L
  induction L with
  | nil => intro i; rfl
  | cons p L ih =>
    intro i
    unfold findL getI
    by_cases h : k = p.1
    · simp [h]
    · rw [if_neg h, List.find?_cons]
      simp only [h, decide_false]
      exact ih (i + 1)

theorem map_look {w : World} {mb : Nat} {L : List (Key × Int)} (h : MapIs w mb L) (k : Key) (hk : Free w k.b) (hf : ∀ p ∈ L, Free w p.1.b) :
    (Instr.lookup 74 (.map (some mb)) k.v false).run Try.prog w = .ok (.int .i64 (getI k L)) w := by
  obtain ⟨arr, clock, hh, he⟩ := h
  have hu : (underlying 74).run Try.prog w = .ok (.map 78 3) w := by rw [run_underlying (by kernel_rfl)]
  have hg : (getObj mb).run Try.prog w = .ok (.map arr clock) w := run_getObj_map (w := w) mb arr clock hh
  have hc := check_key arr.isEmpty k w
  have hfk := find_key k hk arr.toList L he hf
  have hz : (zeroValue 3).run Try.prog w = .ok (.int .i64 0) w := by kernel_rfl
  have hfin := findL_get k L 0
  simp only [Instr.lookup, Sem.run_bind, hu, Result.andThen_ok, hg, Sem.run_pure]
  rw [hc]
  simp only [Result.andThen_ok]
  rw [hfk]
  simp only [Result.andThen_ok]
  rw [← hfin]
  cases hr : findL k L 0 with
  | none => simp only [Sem.run_bind, hz, Result.andThen_ok, Sem.run_pure, Bool.false_eq_true, if_false]
  | some p => obtain ⟨i, v⟩ := p; simp only [Sem.run_bind, Result.andThen_ok, Sem.run_pure, Bool.false_eq_true, if_false]

def putL (k : Key) (v : Int) : List (Key × Int) → List (Key × Int)
  | [] => [(k, v)]
  | p :: L => if k = p.1 then (k, v) :: L else p :: putL k v L

theorem findL_none (k : Key) (v : Int) : ∀ (L : List (Key × Int)) (j : Nat), findL k L j = none → putL k v L = L ++ [(k, v)] := by
  intro L
  induction L with
  | nil => intro j _; rfl
  | cons p L ih =>
    intro j h
    unfold findL at h
    by_cases hk : k = p.1
    · rw [if_pos hk] at h; cases h
    · rw [if_neg hk] at h
      unfold putL
      rw [if_neg hk, ih (j + 1) h]; rfl
theorem findL_some (k : Key) (v : Int) : ∀ (L : List (Key × Int)) (j i : Nat) (u : Value), findL k L j = some (i, u) → ∃ n, i = j + n ∧ ∃ x, L[n]? = some (k, x) ∧ putL k v L = L.modify n (fun _ => (k, v)) := by
  intro L
  induction L with
  | nil => intro j i u h; cases h
  | cons p L ih =>
    intro j i u h
    unfold findL at h
    by_cases hk : k = p.1
    · rw [if_pos hk] at h
      obtain ⟨rfl, _⟩ : j = i ∧ _ := by simpa using h
      refine ⟨0, rfl, p.2, ?_, ?_⟩
      · rw [hk]; rfl
      · unfold putL; rw [if_pos hk]; rfl
    · rw [if_neg hk] at h
      obtain ⟨n, rfl, x, h1, h2⟩ := ih (j + 1) i u h
      refine ⟨n + 1, by omega, x, by simpa using h1, ?_⟩
      unfold putL; rw [if_neg hk, h2]; rfl

theorem same_bits (k : Key) : Instr.sameBits 10000 k.v k.v = true := by
  obtain ⟨b, o, n⟩ := k
  show Instr.sameBits (9999 + 1) _ _ = true
  unfold Key.v
  rw [Instr.sameBits]
  simp [Instr.sameBits]

end Go.Proofs.Ytlpoimagikolfaa.syn
