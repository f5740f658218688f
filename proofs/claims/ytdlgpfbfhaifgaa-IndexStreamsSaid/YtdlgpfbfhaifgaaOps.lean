/-
  Operators that came in: what a reading of them says of memory.
-/
import Derived.Test.YtdlgpfbfhaifgaaOpen
import Derived.Test.YtdlgpfbfhaifgaaIdx1
namespace Go.Proofs.Ytdlgpfbfhaifgaa.syn
open Go.RowKit Go.ChangeShapes Go.WideShapes
set_option linter.unusedVariables false
set_option linter.unusedSimpArgs false

def OpC (w : World) (b o : Nat) (x : Int × Int × Int) : Prop :=
  w.cell? ⟨b, o, none⟩ = some (.int .i64 x.1) ∧ w.cell? ⟨b, o + 1, none⟩ = some (.int .i64 x.2.1) ∧ w.cell? ⟨b, o + 2, none⟩ = some (.int .i64 x.2.2) ∧ (I64 x.1 ∧ I64 x.2.1 ∧ I64 x.2.2)
theorem opSta : Sta OpC := fun w w' b o x hb hlt h => by
  have hc : ∀ o, w'.cell? ⟨b, o, none⟩ = w.cell? ⟨b, o, none⟩ := fun o => hb.cell (p := ⟨b, o, none⟩) hlt
  obtain ⟨h0, h1, h2, h4⟩ := h
  exact ⟨(hc _).trans h0, (hc _).trans h1, (hc _).trans h2, h4⟩
theorem opFields : (Try.prog.fieldsOf 43).toList.map (fun f => (f.type, f.offset)) = [(3, 0), (2, 1), (2, 2)] := by kernel_rfl
theorem opStruct : Try.prog.underlying 43 = some (.struct (Try.prog.fieldsOf 43)) := by kernel_rfl
theorem opCells : Try.prog.cellsOf 43 = 3 := by kernel_rfl
section
variable {H : Type} {enc : TypeId × Value → H} {w : World} {base : Nat} {sp : Nat → Bool} {held : Bool}
theorem open_op (n : Nat) (cs : List Value) (x) (h : DataW.trod enc Try.prog w base sp held n 43 cs = some x) : ∃ a : Int × Int × Int, ∀ b o, b < w.heap.size → (∀ j, j < 3 → w.cell? ⟨b, o + j, none⟩ = cs[j]?) → OpC w b o a := by
  obtain ⟨xs, n, rfl, _, hlen, hxl, hf⟩ := DataW.trod_struct opStruct h
  obtain ⟨y0, h0⟩ := field_cells opFields hxl hf 0 3 0 1 rfl intCells
  obtain ⟨y1, h1⟩ := field_cells opFields hxl hf 1 2 1 1 rfl int64Cells
  obtain ⟨y2, h2⟩ := field_cells opFields hxl hf 2 2 2 1 rfl int64Cells
  obtain ⟨k, e0, _, w0⟩ := DataW.trod_int Try.underlying3 h0
  obtain ⟨m, e1, _, w1⟩ := DataW.trod_int Try.underlying2 h1
  obtain ⟨d, e2, _, w2⟩ := DataW.trod_int Try.underlying2 h2
  exact ⟨⟨k, m, d⟩, fun b o hb hc => ⟨(hc 0 (by omega)).trans (one_cell e0), (hc 1 (by omega)).trans (one_cell e1), (hc 2 (by omega)).trans (one_cell e2), i64_of w0, i64_of w1, i64_of w2⟩⟩
theorem open_ops {n : Nat} {cs : List Value} {x} (h : DataW.trod enc Try.prog w base sp held n 22 cs = some x) : ∃ (l : List (Int × Int × Int)) (ad : Option Addr) (cap : Nat), Row OpC 3 w l ad ∧ l.length ≤ cap ∧ cap ≤ 9223372036854775807 ∧ cs = [.slice ad l.length cap] :=
  open_row Try.underlying22 opCells (by omega) open_op h
end
theorem opA_row {w : World} {l : List (Int × Int × Int)} {ad : Option Addr} (h : Row OpC 3 w l ad) : index.OpA w ad l := by
  intro k hk
  obtain ⟨b, o, e, hb, h0, h1, h2, _⟩ := h.at hk
  rw [plain.getD_lt _ hk]
  exact ⟨b, o, e, hb, h0, h1, h2⟩
/-- What the frame tells of a slice of operators that came in. -/
def InOps (W : World) (v : Value) : Prop := ∃ (l : List (Int × Int × Int)) (ad : Option Addr) (cap : Nat), Row OpC 3 W l ad ∧ l.length ≤ cap ∧ cap ≤ 9223372036854775807 ∧ v = .slice ad l.length cap
theorem open_opsV {H : Type} {enc : TypeId × Value → H} {W : World} {v : Value} {d : DataW H} {p : List MemPlace} (hv : Value.okWide Try.prog W .any 0 22 v)
    (h : DataW.Trod enc Try.prog W 0 (fun _ => true) true 22 v d p) : InOps W v := by
  obtain ⟨a0, len0, cap0, rfl⟩ := okWide_slice Try.underlying22 hv
  obtain ⟨fuel, hf⟩ := h
  obtain ⟨l, ad, cap, hr, h1, h2, hcs⟩ := open_ops hf
  have hcs' : [Value.slice a0 len0 cap0] = [Value.slice ad l.length cap] := hcs
  injection hcs' with hcs'
  exact ⟨l, ad, cap, hr, h1, h2, hcs'⟩
end Go.Proofs.Ytdlgpfbfhaifgaa.syn
