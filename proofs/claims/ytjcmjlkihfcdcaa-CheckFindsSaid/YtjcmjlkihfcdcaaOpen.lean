/-
  What a reading of an argument says of memory: rows of elements, fields of structs.
-/
import Derived.Test.YtjcmjlkihfcdcaaChecked
import Derived.WalkKit
import Derived.ProofKit
import Derived.OpenShut
import Derived.Below
import Derived.ChangeArms
import Derived.DataReads
namespace Go.Proofs.Ytjcmjlkihfcdcaa.syn
open Go.RowKit Go.ChangeShapes Go.WideShapes
set_option linter.unusedVariables false
set_option linter.unusedSimpArgs false

theorem maxLen_le {n : Nat} (h : n ≤ maxLen) : n ≤ 9223372036854775807 := h
def I64 (n : Int) : Prop := -9223372036854775808 ≤ n ∧ n ≤ 9223372036854775807

theorem i64_of {n : Int} (h : (Lit.int .i64 n).wf = true) : I64 n := bounds_i64 h

/-- A row of elements of so many cells each, in one block. -/
def Row {α : Type} (P : World → Nat → Nat → α → Prop) (sz : Nat) (w : World) (l : List α) (ad : Option Addr) : Prop :=
  l = [] ∨ ∃ b o, ad = some ⟨b, o, none⟩ ∧ b < w.heap.size ∧ ∀ i (h : i < l.length), P w b (o + i * sz) l[i]
def Sta {α : Type} (P : World → Nat → Nat → α → Prop) : Prop := ∀ (w w' : World) (b o : Nat) (x : α), Below w.heap.size w w' → b < w.heap.size → P w b o x → P w' b o x
theorem Row.below {α : Type} {P : World → Nat → Nat → α → Prop} {sz : Nat} {w w' : World} {l : List α} {ad : Option Addr} (hP : Sta P) (hb : Below w.heap.size w w') (h : Row P sz w l ad) : Row P sz w' l ad := by
  rcases h with h | ⟨b, o, e, hlt, h⟩
  · exact .inl h
  · exact .inr ⟨b, o, e, Nat.lt_of_lt_of_le hlt hb.size, fun i hi => hP w w' b _ _ hb hlt (h i hi)⟩
theorem Row.at {α : Type} {P : World → Nat → Nat → α → Prop} {sz : Nat} {w : World} {l : List α} {ad : Option Addr} (h : Row P sz w l ad) {i : Nat} (hi : i < l.length) :
    ∃ b o, ad = some ⟨b, o, none⟩ ∧ b < w.heap.size ∧ P w b (o + i * sz) l[i] := by
  rcases h with h | ⟨b, o, e, hlt, h⟩
  · subst h; simp at hi
  · exact ⟨b, o, e, hlt, h i hi⟩

def StrC (w : World) (b o : Nat) (s : ByteArray) : Prop := w.cell? ⟨b, o, none⟩ = some (.string s) ∧ s.size ≤ 9223372036854775807
theorem intCells : Try.prog.cellsOf 3 = 1 := by kernel_rfl
theorem int64Cells : Try.prog.cellsOf 2 = 1 := by kernel_rfl
theorem stringCells : Try.prog.cellsOf 9 = 1 := by kernel_rfl
section
variable {H : Type} {enc : TypeId × Value → H} {w : World} {base : Nat} {sp : Nat → Bool} {held : Bool}

theorem field_at {fs : Array Field} {l : List (TypeId × Nat)} (h : fs.toList.map (fun f => (f.type, f.offset)) = l) (i : Nat) (t : TypeId) (o : Nat) (hl : l[i]? = some (t, o)) : ∃ f, fs[i]? = some f ∧ f.type = t ∧ f.offset = o := by
  subst h
  rw [List.getElem?_map] at hl
  cases hf : fs.toList[i]? with
  | none => rw [hf] at hl; cases hl
  | some f =>
    rw [hf] at hl
    simp only [Option.map_some, Option.some.injEq, Prod.mk.injEq] at hl
    exact ⟨f, by simpa using hf, hl.1, hl.2⟩

theorem one_cell {cs : List Value} {o : Nat} {v : Value} (h : (cs.drop o).take 1 = [v]) : cs[o]? = some v := by
  have := congrArg (fun l => l[0]?) h
  simpa using this

theorem field_cells {cs : List Value} {fs : Array Field} {l : List (TypeId × Nat)} {xs : List (DataW H × List MemPlace)} {n : Nat} (hmap : fs.toList.map (fun f => (f.type, f.offset)) = l) (hlen : xs.length = fs.size)
    (hf : ∀ (i : Nat) (f : Field), fs[i]? = some f → DataW.trod enc Try.prog w base sp held n f.type ((cs.drop f.offset).take (Try.prog.cellsOf f.type)) = xs[i]?) (i : Nat) (ft : TypeId) (o m : Nat) (hl : l[i]? = some (ft, o)) (hc : Try.prog.cellsOf ft = m) :
    ∃ y, DataW.trod enc Try.prog w base sp held n ft ((cs.drop o).take m) = some y := by
  obtain ⟨f, h1, rfl, rfl⟩ := field_at hmap i ft o hl
  have h2 := hf i f h1
  rw [hc] at h2
  have hi : i < xs.length := by rw [hlen]; exact (Array.getElem?_eq_some_iff.1 h1).1
  rw [List.getElem?_eq_getElem hi] at h2
  exact ⟨_, h2⟩

/-- What a list reads as, where its elements do. -/
theorem open_row {α : Type} {P : World → Nat → Nat → α → Prop} {T S : TypeId} {sz : Nat} (hS : Try.prog.underlying S = some (.slice T)) (hsz : Try.prog.cellsOf T = sz) (hpos : 0 < sz)
    (hel : ∀ n cs x, DataW.trod enc Try.prog w base sp held n T cs = some x → ∃ a : α, ∀ b o, b < w.heap.size → (∀ j, j < sz → w.cell? ⟨b, o + j, none⟩ = cs[j]?) → P w b o a)
    {n : Nat} {cs : List Value} {x} (h : DataW.trod enc Try.prog w base sp held n S cs = some x) : ∃ (l : List α) (ad : Option Addr) (cap : Nat), Row P sz w l ad ∧ l.length ≤ cap ∧ cap ≤ 9223372036854775807 ∧ cs = [.slice ad l.length cap] := by
  rcases DataW.trod_slice hS h with ⟨rfl, _⟩ | ⟨ad, len, cap, elems, rest, n, rfl, rfl, _, _, hl, hm, helems, hall, _⟩
  · exact ⟨[], none, 0, .inl rfl, Nat.le_refl _, Nat.zero_le _, rfl⟩
  · have hm' : cap ≤ 9223372036854775807 := maxLen_le hm
    by_cases h0 : len = 0
    · subst h0; exact ⟨[], some ad, cap, .inl rfl, Nat.zero_le _, hm', rfl⟩
    · rw [hsz] at hall
      have key : ∀ i, i < len → ∃ cs', w.cells? base (ad.add (i * sz)) sz = some cs' ∧ ∃ y, DataW.trod enc Try.prog w base sp held n T cs' = some y := by
        intro i hi
        have h1 := hall i hi
        rw [List.getElem?_eq_getElem (by omega)] at h1
        obtain ⟨cs', h2, h3⟩ := Option.bind_eq_some_iff.1 h1
        exact ⟨cs', h2, _, h3⟩
      obtain ⟨b, o, spt⟩ := ad
      obtain ⟨cs0, hc0, y0, hy0⟩ := key 0 (by omega)
      obtain ⟨_, hlen0, hcell0⟩ := World.cells?_some hc0
      have hspot : spt = none := by
        have := hcell0 0 hpos
        rw [List.getElem?_eq_getElem (by omega)] at this
        simpa [Addr.add] using World.cell?_spot this
      subst hspot
      have hb : b < w.heap.size := by
        have := hcell0 0 hpos
        rw [List.getElem?_eq_getElem (by omega)] at this
        exact World.block_lt_of_cell? _ _ (by simpa [Addr.add] using this)
      have each : ∀ i, i < len → ∃ a : α, P w b (o + i * sz) a := by
        intro i hi
        obtain ⟨cs', h2, y, hy⟩ := key i hi
        obtain ⟨a, ha⟩ := hel n cs' y hy
        obtain ⟨_, _, hcell⟩ := World.cells?_some h2
        refine ⟨a, ha b _ hb fun j hj => ?_⟩
        have hadd : ((⟨b, o, none⟩ : Addr).add (i * sz)).add j = ⟨b, o + i * sz + j, none⟩ := by
          unfold Addr.add; by_cases h1 : i * sz = 0 <;> by_cases h2 : j = 0 <;> simp [h1, h2]
        have := hcell j hj
        rw [hadd] at this; exact this
      have build : ∀ m, m ≤ len → ∃ l : List α, l.length = m ∧ ∀ i (h : i < l.length), P w b (o + i * sz) l[i] := by
        intro m
        induction m with
        | zero => intro _; exact ⟨[], rfl, fun i h => absurd h (Nat.not_lt_zero _)⟩
        | succ m ih =>
          intro hm
          obtain ⟨l, hl, h⟩ := ih (by omega)
          obtain ⟨a, ha⟩ := each m (by omega)
          refine ⟨l ++ [a], by simp [hl], fun i hi => ?_⟩
          by_cases him : i < l.length
          · rw [List.getElem_append_left him]; exact h i him
          · have : i = m := by simp at hi; omega
            subst this
            rw [List.getElem_append_right (by omega)]
            simpa [hl] using ha
      obtain ⟨l, hll, hP⟩ := build len (Nat.le_refl _)
      exact ⟨l, some ⟨b, o, none⟩, cap, .inr ⟨b, o, rfl, hb, hP⟩, by omega, hm', by rw [hll]⟩

theorem sub_cell {cs l : List Value} {o m j : Nat} (h : (cs.drop o).take m = l) (hj : j < m) : cs[o + j]? = l[j]? := by
  rw [← h, List.getElem?_take_of_lt hj, List.getElem?_drop]

end
end Go.Proofs.Ytjcmjlkihfcdcaa.syn
