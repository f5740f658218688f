/-
  A map whose keys are strings: what it finds, what it stores (any elements).
-/
import Derived.Test.YtjcmjlkihfcdcaaBase
import Derived.MapKept
namespace Go.Proofs.Ytjcmjlkihfcdcaa.syn
open Go.RowKit
set_option linter.unusedVariables false
set_option linter.unusedSimpArgs false

def MapS (w : World) (mb : Nat) (L : List (ByteArray × Value)) : Prop :=
  ∃ arr clock, w.heap[mb]? = some (.map arr clock) ∧ arr.toList.map (fun e => (e.key, e.val)) = L.map (fun p => (Value.string p.1, p.2))
def findS (k : ByteArray) : List (ByteArray × Value) → Nat → Option (Nat × Value)
  | [], _ => none
  | p :: L, i => if k = p.1 then some (i, p.2) else findS k L (i + 1)
def getS (k : ByteArray) : List (ByteArray × Value) → Option Value
  | [] => none
  | p :: L => if k = p.1 then some p.2 else getS k L
def putS (k : ByteArray) (v : Value) : List (ByteArray × Value) → List (ByteArray × Value)
  | [] => [(k, v)]
  | p :: L => if k = p.1 then (k, v) :: L else p :: putS k v L

theorem strEq (a b : ByteArray) : (a == b) = decide (a = b) := by
  obtain ⟨x⟩ := a
  obtain ⟨y⟩ := b
  have h1 : ((⟨x⟩ : ByteArray) == ⟨y⟩) = (x == y) := rfl
  rw [h1]
  by_cases h : x = y
  · subst h; simp
  · have h2 : ¬ ((⟨x⟩ : ByteArray) = ⟨y⟩) := by intro e; injection e with e; exact h e
    rw [decide_eq_false h2]; simpa using h
theorem strSelf (a : ByteArray) : (a == a) = true := by rw [strEq]; simp
theorem find_nowS (k : ByteArray) : ∀ (es : List MapEntry) (L : List (ByteArray × Value)) (i : Nat), es.map (fun e => (e.key, e.val)) = L.map (fun p => (Value.string p.1, p.2)) →
    Instr.findNow .string (.string k) es i = some (findS k L i) := by
  intro es
  induction es with
  | nil => intro L i h; cases L with
    | nil => rfl
    | cons p L => simp at h
  | cons e es ih =>
    intro L i h
    cases L with
    | nil => simp at h
    | cons p L =>
      simp only [List.map_cons, List.cons.injEq, Prod.mk.injEq] at h
      obtain ⟨⟨h1, h2⟩, h3⟩ := h
      unfold Instr.findNow
      rw [h1]
      simp only [Instr.sameNow, strEq, findS]
      by_cases hk : k = p.1
      · simp [hk, h2]
      · simp [hk, ih L (i + 1) h3]
theorem findS_get (k : ByteArray) : ∀ (L : List (ByteArray × Value)) (i : Nat), (findS k L i).map (·.2) = getS k L := by
  intro L
  induction L with
  | nil => intro i; rfl
  | cons p L ih =>
    intro i
    unfold findS getS
    by_cases h : k = p.1
    · rw [if_pos h, if_pos h]; rfl
    · rw [if_neg h, if_neg h]; exact ih (i + 1)
theorem findS_none (k : ByteArray) (v : Value) : ∀ (L : List (ByteArray × Value)) (j : Nat), findS k L j = none → putS k v L = L ++ [(k, v)] := by
  intro L
  induction L with
  | nil => intro j _; rfl
  | cons p L ih =>
    intro j h
    unfold findS at h
    by_cases hk : k = p.1
    · rw [if_pos hk] at h; cases h
    · rw [if_neg hk] at h
      unfold putS
      rw [if_neg hk, ih (j + 1) h]; rfl
theorem findS_some (k : ByteArray) (v : Value) : ∀ (L : List (ByteArray × Value)) (j i : Nat) (u : Value), findS k L j = some (i, u) → ∃ n, i = j + n ∧ ∃ x, L[n]? = some (k, x) ∧ putS k v L = L.modify n (fun _ => (k, v)) := by
  intro L
  induction L with
  | nil => intro j i u h; cases h
  | cons p L ih =>
    intro j i u h
    unfold findS at h
    by_cases hk : k = p.1
    · rw [if_pos hk] at h
      obtain ⟨rfl, _⟩ : j = i ∧ _ := by simpa using h
      refine ⟨0, rfl, p.2, ?_, ?_⟩
      · rw [hk]; rfl
      · unfold putS; rw [if_pos hk]; rfl
    · rw [if_neg hk] at h
      obtain ⟨n, rfl, x, h1, h2⟩ := ih (j + 1) i u h
      refine ⟨n + 1, by omega, x, by simpa using h1, ?_⟩
      unfold putS; rw [if_neg hk, h2]; rfl

/-- What a map type is: strings' keys, its elements, their zero. -/
structure StrMap (T K E : TypeId) (z : Value) : Prop where
  map : Try.prog.underlying T = some (.map K E)
  key : Try.prog.underlying K = some .string
  zero : ∀ w, (zeroValue E).run Try.prog w = .ok z w
  check : ∀ (b : Bool) (s : ByteArray) (w : World), (Instr.checkKey b 10000 K (.string s)).run Try.prog w = .ok () w

theorem map_lookS {T K E : TypeId} {z : Value} (M : StrMap T K E z) {w : World} {mb : Nat} {L : List (ByteArray × Value)} (h : MapS w mb L) (k : ByteArray) (c : Bool) :
    (Instr.lookup T (.map (some mb)) (.string k) c).run Try.prog w = .ok (if c then .tuple #[(getS k L).getD z, .bool (getS k L).isSome] else (getS k L).getD z) w := by
  obtain ⟨arr, clock, hh, he⟩ := h
  have hu : (underlying T).run Try.prog w = .ok (.map K E) w := by rw [run_underlying M.map]
  have hk : (underlying K).run Try.prog w = .ok .string w := by rw [run_underlying M.key]
  have hg : (getObj mb).run Try.prog w = .ok (.map arr clock) w := run_getObj_map (w := w) mb arr clock hh
  have hc := M.check arr.isEmpty k w
  have hfin := findS_get k L 0
  have hfk : (Instr.findKey K (.string k) arr.toList).run Try.prog w = .ok (findS k L 0) w := by
    unfold Instr.findKey
    simp only [Sem.run_bind, hk, Result.andThen_ok]
    rw [find_nowS k arr.toList L 0 he]; rfl
  simp only [Instr.lookup, Sem.run_bind, hu, Result.andThen_ok, hg, Sem.run_pure]
  rw [hc]
  simp only [Result.andThen_ok]
  rw [hfk]
  simp only [Result.andThen_ok]
  rw [← hfin]
  cases hr : findS k L 0 with
  | none => simp only [Sem.run_bind, M.zero, Result.andThen_ok, Sem.run_pure]; cases c <;> rfl
  | some p => obtain ⟨i, v⟩ := p; simp only [Sem.run_bind, Result.andThen_ok, Sem.run_pure]; cases c <;> rfl

/-- A world but for one map's entries. -/
def World.putM (w : World) (mb : Nat) (o : Obj) : World := { w with heap := w.heap.setIfInBounds mb o }

theorem same_bitsS (k : ByteArray) : Instr.sameBits 10000 (.string k) (.string k) = true := by
  show Instr.sameBits (9999 + 1) _ _ = true
  simp [Instr.sameBits, strSelf]

theorem map_putS {T K E : TypeId} {z : Value} (M : StrMap T K E z) {w : World} {mb : Nat} {L : List (ByteArray × Value)} (h : MapS w mb L) (k : ByteArray) (v : Value) :
    ∃ arr clock, (Instr.mapUpdate T (.map (some mb)) (.string k) v).run Try.prog w = .ok () (World.putM w mb (.map arr clock)) ∧ MapS (World.putM w mb (.map arr clock)) mb (putS k v L) := by
  obtain ⟨arr, clock, hh, he⟩ := h
  have hu : (underlying T).run Try.prog w = .ok (.map K E) w := by rw [run_underlying M.map]
  have hk : (underlying K).run Try.prog w = .ok .string w := by rw [run_underlying M.key]
  have hg : (getObj mb).run Try.prog w = .ok (.map arr clock) w := run_getObj_map (w := w) mb arr clock hh
  have hc := M.check false k w
  have hfk : (Instr.findKey K (.string k) arr.toList).run Try.prog w = .ok (findS k L 0) w := by
    unfold Instr.findKey
    simp only [Sem.run_bind, hk, Result.andThen_ok]
    rw [find_nowS k arr.toList L 0 he]; rfl
  have hlt := lt_of_block hh
  have hnew : ∀ o, (World.putM w mb o).heap[mb]? = some o := by
    intro o
    show (w.heap.setIfInBounds mb o)[mb]? = some o
    rw [Array.getElem?_setIfInBounds_self_of_lt hlt]
  cases hr : findS k L 0 with
  | none =>
    refine ⟨arr.push { key := .string k, val := v, born := clock }, clock + 1, ?_, ⟨_, _, hnew _, ?_⟩⟩
    · simp only [Instr.mapUpdate, Sem.run_bind, hu, Result.andThen_ok, hg]
      rw [hc]
      simp only [Result.andThen_ok]
      rw [hfk, hr]
      simp only [Result.andThen_ok]
      exact Go.MapKept.run_setObj_map _ hh
    · rw [findS_none k v L 0 hr]
      simp [he]
  | some q =>
    obtain ⟨i, u⟩ := q
    obtain ⟨n, hn, x, h1, h2⟩ := findS_some k v L 0 i u hr
    obtain rfl : i = n := by omega
    have hkey : ((arr[i]?).map (·.key)).getD (.string k) = .string k := by
      have := congrArg (fun l => l[i]?) he
      simp only [List.getElem?_map, h1, Option.map_some] at this
      cases ha : arr[i]? with
      | none => rfl
      | some e => simp [ha] at this ⊢; exact this.1
    have hst : (Instr.keyThatStays (.string k) (.string k)).run Try.prog w = .ok (.string k) w := by
      unfold Instr.keyThatStays; rw [same_bitsS]; rfl
    refine ⟨arr.modify i fun e => { e with key := .string k, val := v }, clock, ?_, ⟨_, _, hnew _, ?_⟩⟩
    · simp only [Instr.mapUpdate, Sem.run_bind, hu, Result.andThen_ok, hg]
      rw [hc]
      simp only [Result.andThen_ok]
      rw [hfk, hr]
      simp only [Result.andThen_ok, Sem.run_bind, hkey]
      rw [hst]
      simp only [Result.andThen_ok]
      exact Go.MapKept.run_setObj_map _ hh
    · rw [h2, Array.toList_modify]
      apply List.ext_getElem?
      intro j
      have hj := congrArg (fun l => l[j]?) he
      simp only [List.getElem?_map, List.getElem?_modify] at hj ⊢
      by_cases hij : i = j
      · subst hij
        rw [h1] at hj ⊢
        cases ha : arr.toList[i]? with
        | none => rw [ha] at hj; simp at hj
        | some e => simp
      · simp only [hij, if_false]
        cases ha : arr.toList[j]? <;> cases hb : L[j]? <;> rw [ha, hb] at hj <;> simp at hj ⊢
        exact hj

theorem MapS.below {w w' : World} {mb : Nat} {L : List (ByteArray × Value)} (h : MapS w mb L) (hb : Below w.heap.size w w') : MapS w' mb L := by
  obtain ⟨arr, clock, h1, h2⟩ := h
  exact ⟨arr, clock, (hb.block mb (lt_of_block h1)).trans h1, h2⟩
theorem MapS.lt {w : World} {mb : Nat} {L : List (ByteArray × Value)} (h : MapS w mb L) : mb < w.heap.size := by
  obtain ⟨arr, clock, h1, h2⟩ := h
  exact lt_of_block h1
theorem MapS.new (w : World) : MapS (w.alloc (.map #[] 0)) w.heap.size [] := ⟨#[], 0, heap_new w _, rfl⟩
theorem below_putM {B : Nat} {a w : World} (h : Below B a w) {mb : Nat} (hm : B ≤ mb) (o : Obj) : Below B a (World.putM w mb o) := by
  refine h.trans ⟨rfl, rfl, rfl, by simp [World.putM], fun k hk => ?_⟩
  show (w.heap.setIfInBounds mb o)[k]? = _
  rw [Array.getElem?_setIfInBounds_ne (by omega)]
theorem upon_putM {a w : World} {mb : Nat} (h : Upon mb a w) (o : Obj) : Upon mb a (World.putM w mb o) := by
  refine h.trans ⟨rfl, rfl, rfl, by simp [World.putM], fun k hk hne => ?_⟩
  show (w.heap.setIfInBounds mb o)[k]? = _
  rw [Array.getElem?_setIfInBounds_ne (by omega)]

theorem wpList_lookS {T K E : TypeId} {z : Value} (M : StrMap T K E z) (w : World) {ops : Array Oper} {rest : List Oper} {o : Oper} {a : Act} {Q : Exit → Act → World → Prop}
    (hg : o.guard = none) (m x : Operand) (c : Bool) (hop : o.op = Op.lookup T m x c) (mb : Nat) (L : List (ByteArray × Value)) (k : ByteArray)
    (hm : a.eval m = .map (some mb)) (hx : a.eval x = .string k) (h : MapS w mb L)
    (hK : wpList Try.prog ops Q rest (a.put o.dst (if c then .tuple #[(getS k L).getD z, .bool (getS k L).isSome] else (getS k L).getD z)) w) :
    wpList Try.prog ops Q (o :: rest) a w := by
  refine wpList_plain hg fun K' hK' => ?_
  have hrun := map_lookS M h k c
  have e : (execOp a.eval o).run Try.prog w = .ok (.value (if c then .tuple #[(getS k L).getD z, .bool (getS k L).isSome] else (getS k L).getD z)) w := by
    simp [execOp, hop, hm, hx, hrun]
  unfold Oper.wp
  rw [e]
  exact hK' _ _ hK

theorem wpList_putS {T K E : TypeId} {z : Value} (M : StrMap T K E z) (w : World) {ops : Array Oper} {rest : List Oper} {o : Oper} {a : Act} {Q : Exit → Act → World → Prop}
    (hg : o.guard = none) (m x v : Operand) (hop : o.op = Op.mapUpdate T m x v) (mb : Nat) (L : List (ByteArray × Value)) (k : ByteArray) (u : Value)
    (hm : a.eval m = .map (some mb)) (hx : a.eval x = .string k) (hv : a.eval v = u) (h : MapS w mb L)
    (hK : ∀ arr clock, MapS (World.putM w mb (.map arr clock)) mb (putS k u L) → wpList Try.prog ops Q rest (a.put o.dst undef) (World.putM w mb (.map arr clock))) :
    wpList Try.prog ops Q (o :: rest) a w := by
  refine wpList_plain hg fun K' hK' => ?_
  obtain ⟨arr, clock, hrun, h1⟩ := map_putS M h k u
  unfold Oper.wp
  simp [execOp, hop, hm, hx, hv, hrun, Result.andThen]
  exact hK' _ _ (hK arr clock h1)

theorem wpList_lookS_yes2 {T K E : TypeId} {z : Value} (M : StrMap T K E z) (w : World) {ops : Array Oper} {rest : List Oper} {o : Oper} {a : Act} {Q : Exit → Act → World → Prop}
    (hg : o.guard = none) (m x : Operand) (hop : o.op = Op.lookup T m x true) (mb : Nat) (L : List (ByteArray × Value)) (k : ByteArray) (v : Value)
    (hm : a.eval m = .map (some mb)) (hx : a.eval x = .string k) (h : MapS w mb L) (hs : getS k L = some v)
    (hK : wpList Try.prog ops Q rest (a.put o.dst (.tuple #[v, .bool true])) w) :
    wpList Try.prog ops Q (o :: rest) a w :=
  wpList_lookS M w hg m x true hop mb L k hm hx h (by simpa only [hs, Option.getD, Option.isSome, if_true, if_false, Bool.false_eq_true] using hK)
theorem wpList_lookS_no2 {T K E : TypeId} {z : Value} (M : StrMap T K E z) (w : World) {ops : Array Oper} {rest : List Oper} {o : Oper} {a : Act} {Q : Exit → Act → World → Prop}
    (hg : o.guard = none) (m x : Operand) (hop : o.op = Op.lookup T m x true) (mb : Nat) (L : List (ByteArray × Value)) (k : ByteArray)
    (hm : a.eval m = .map (some mb)) (hx : a.eval x = .string k) (h : MapS w mb L) (hs : getS k L = none)
    (hK : wpList Try.prog ops Q rest (a.put o.dst (.tuple #[z, .bool false])) w) :
    wpList Try.prog ops Q (o :: rest) a w :=
  wpList_lookS M w hg m x true hop mb L k hm hx h (by simpa only [hs, Option.getD, Option.isSome, if_true, if_false, Bool.false_eq_true] using hK)
theorem wpList_lookS_yes1 {T K E : TypeId} {z : Value} (M : StrMap T K E z) (w : World) {ops : Array Oper} {rest : List Oper} {o : Oper} {a : Act} {Q : Exit → Act → World → Prop}
    (hg : o.guard = none) (m x : Operand) (hop : o.op = Op.lookup T m x false) (mb : Nat) (L : List (ByteArray × Value)) (k : ByteArray) (v : Value)
    (hm : a.eval m = .map (some mb)) (hx : a.eval x = .string k) (h : MapS w mb L) (hs : getS k L = some v)
    (hK : wpList Try.prog ops Q rest (a.put o.dst (v)) w) :
    wpList Try.prog ops Q (o :: rest) a w :=
  wpList_lookS M w hg m x false hop mb L k hm hx h (by simpa only [hs, Option.getD, Option.isSome, if_true, if_false, Bool.false_eq_true] using hK)
theorem wpList_lookS_no1 {T K E : TypeId} {z : Value} (M : StrMap T K E z) (w : World) {ops : Array Oper} {rest : List Oper} {o : Oper} {a : Act} {Q : Exit → Act → World → Prop}
    (hg : o.guard = none) (m x : Operand) (hop : o.op = Op.lookup T m x false) (mb : Nat) (L : List (ByteArray × Value)) (k : ByteArray)
    (hm : a.eval m = .map (some mb)) (hx : a.eval x = .string k) (h : MapS w mb L) (hs : getS k L = none)
    (hK : wpList Try.prog ops Q rest (a.put o.dst (z)) w) :
    wpList Try.prog ops Q (o :: rest) a w :=
  wpList_lookS M w hg m x false hop mb L k hm hx h (by simpa only [hs, Option.getD, Option.isSome, if_true, if_false, Bool.false_eq_true] using hK)

theorem clocksMap : StrMap 66 9 43 (.agg #[.int .i64 0, .int .i64 0]) := ⟨by kernel_rfl, by kernel_rfl, fun w => by kernel_rfl, fun b s w => by cases b <;> kernel_rfl⟩
theorem namesMap : StrMap 72 9 3 (.int .i64 0) := ⟨by kernel_rfl, by kernel_rfl, fun w => by kernel_rfl, fun b s w => by cases b <;> kernel_rfl⟩
theorem intsMap : StrMap 71 9 3 (.int .i64 0) := ⟨by kernel_rfl, by kernel_rfl, fun w => by kernel_rfl, fun b s w => by cases b <;> kernel_rfl⟩

end Go.Proofs.Ytjcmjlkihfcdcaa.syn
