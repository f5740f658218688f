/-
  Clocks, one: the map of the inputs; what is answered.
-/
import Derived.Test.YtjcmjlkihfcdcaaChk10
import Derived.Deep.OwnRows
namespace Go.Proofs.Ytjcmjlkihfcdcaa.syn
open Go.RowKit
set_option linter.unusedVariables false
set_option linter.unusedSimpArgs false

def inEnv : List IN → Env → Env
  | [], e => e
  | x :: l, e => inEnv l (upd e x.nm (x.per, x.ph))
def env0 (ins : List IN) : Env := inEnv ins (fun _ => none)
def clkAt (env : Env) (nm : ByteArray) : Int × Int := (env nm).getD (0, 0)

/-- Clocks in a block, two cells each. -/
def ClkRow (w : World) (v : Value) (l : List (Int × Int)) : Prop :=
  ∃ b, v = .slice (some ⟨b, 0, none⟩) l.length l.length ∧ b < w.heap.size ∧ ∀ i (h : i < l.length), w.cell? ⟨b, i * 2, none⟩ = some (.int .i64 l[i].1) ∧ w.cell? ⟨b, i * 2 + 1, none⟩ = some (.int .i64 l[i].2)
def ClkAns (w : World) (p : PG) (x : Ending) (w' : World) : Prop :=
  (match findP (env0 p.ins) p.flows with
    | some env => if callsOK env p.flows = true then ∃ v, x = .returned (.tuple #[v, .int .i64 0, .int .i64 0]) ∧ ClkRow w' v (p.flows.map (fun f => clkAt env f.nm))
        else ∃ a e, e ≠ 0 ∧ x = .returned (.tuple #[.slice none 0 0, .int .i64 a, .int .i64 e])
    | none => ∃ a e, e ≠ 0 ∧ x = .returned (.tuple #[.slice none 0 0, .int .i64 a, .int .i64 e])) ∧ Below w.heap.size w w'

theorem drop_in {l : List IN} {i : Nat} (h : i < l.length) : l.drop i = l[i] :: l.drop (i + 1) := by rw [List.drop_eq_getElem_cons h]
theorem blk_setA {w : World} {r : Nat} {arr : Array Value} {t : TypeId} (h : w.heap[r]? = some (.cells arr t (0, 0))) (o : Nat) (u : Value) :
    (w.setCell ⟨r, o, none⟩ u).heap[r]? = some (.cells (arr.setIfInBounds o u) t (0, 0)) := by
  have hlt := lt_of_block h
  have h' : w.heap[r] = .cells arr t (0, 0) := by simpa [Array.getElem?_eq_getElem hlt] using h
  show (w.heap.modify r _)[r]? = _
  rw [Array.getElem?_eq_getElem (by simpa using hlt), Array.getElem_modify_self, h']
  rfl
theorem blk_cellA {w : World} {r : Nat} {arr : Array Value} {t : TypeId} (h : w.heap[r]? = some (.cells arr t (0, 0))) (o : Nat) : w.cell? ⟨r, o, none⟩ = arr[o]? ∧ w.frozen? ⟨r, o, none⟩ = false := by
  constructor
  · simp [World.cell?, h]
  · simp [World.frozen?, h]

/-- What lies besides the map, wherever the walk stands. -/
structure CW (w W wr : World) (mb : Nat) : Prop where
  upon : Upon mb W wr
  size : w.heap.size < W.heap.size
  below : Below w.heap.size w W
  mb : w.heap.size < mb
theorem CW.low {w W wr : World} {mb : Nat} (h : CW w W wr mb) : Below w.heap.size w wr := h.below.trans (h.upon.below (Nat.le_of_lt h.size) (Nat.le_of_lt h.mb))

def L1Rel (w W : World) (mb : Nat) (ins : List IN) (v : Value) (wr : World) : Prop :=
  ∃ (i : Nat) (env : Env) (L : List (ByteArray × Value)), v = .int .i64 (i : Int) ∧ i ≤ ins.length ∧ CW w W wr mb ∧ MapS wr mb L ∧ EnvIs L env ∧ inEnv (ins.drop i) env = env0 ins
def L2Rel (w W : World) (mb : Nat) (p : PG) (v : Value) (wr : World) : Prop :=
  ∃ (j : Nat) (env : Env) (L : List (ByteArray × Value)), v = .int .i64 (j : Int) ∧ j ≤ 4 ∧ CW w W wr mb ∧ MapS wr mb L ∧ EnvIs L env ∧ (j = 0 → env = env0 p.ins) ∧ (j ≠ 0 → findP (env0 p.ins) p.flows = some env) ∧ (3 ≤ j → callsOK env p.flows = true)
def L3Rel (w W : World) (mb b : Nat) (env : Env) (L : List (ByteArray × Value)) (flows : List FL) (v : Value) (wr : World) : Prop :=
  ∃ (i : Nat) (arr : Array Value), v = .int .i64 (i : Int) ∧ i ≤ flows.length ∧ Upon b W wr ∧ wr.heap[b]? = some (.cells arr 43 (0, 0)) ∧ arr.size = flows.length * 2 ∧
    ∀ j (h : j < flows.length), j < i → arr[j * 2]? = some (.int .i64 (clkAt env flows[j].nm).1) ∧ arr[j * 2 + 1]? = some (.int .i64 (clkAt env flows[j].nm).2)

end Go.Proofs.Ytjcmjlkihfcdcaa.syn
