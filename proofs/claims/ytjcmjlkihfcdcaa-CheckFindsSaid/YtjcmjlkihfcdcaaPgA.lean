/-
  Programs that came in: what a reading of them says of memory.
-/
import Derived.Test.YtjcmjlkihfcdcaaArg
namespace Go.Proofs.Ytjcmjlkihfcdcaa.syn
open Go.RowKit Go.ChangeShapes Go.WideShapes
set_option linter.unusedVariables false
set_option linter.unusedSimpArgs false

structure ND where
  nm : ByteArray
  ps : List ByteArray
  bud : Int
  body : PE
  a : Int
structure IN where
  nm : ByteArray
  per : Int
  ph : Int
  a : Int
structure FL where
  nm : ByteArray
  e : PE
  a : Int
structure OU where
  nm : ByteArray
  fl : ByteArray
  dl : Int
  a : Int
structure PG where
  nodes : List ND
  ins : List IN
  flows : List FL
  outs : List OU

/-- An expression's six cells. -/
def CellE (w : World) (b o : Nat) (e : PE) : Prop :=
  ∃ ad cap, w.cell? ⟨b, o, none⟩ = some (.int .i64 e.k) ∧ w.cell? ⟨b, o + 1, none⟩ = some (.string e.nm) ∧ w.cell? ⟨b, o + 2, none⟩ = some (.int .i64 e.n) ∧ w.cell? ⟨b, o + 3, none⟩ = some (.int .i64 e.d) ∧
    w.cell? ⟨b, o + 4, none⟩ = some (.slice ad e.args.len cap) ∧ w.cell? ⟨b, o + 5, none⟩ = some (.int .i64 e.a) ∧ AE w e ad cap
def NodeC (w : World) (b o : Nat) (x : ND) : Prop :=
  w.cell? ⟨b, o, none⟩ = some (.string x.nm) ∧ (∃ ad cap, w.cell? ⟨b, o + 1, none⟩ = some (.slice ad x.ps.length cap) ∧ x.ps.length ≤ cap ∧ cap ≤ 9223372036854775807 ∧ Row StrC 1 w x.ps ad) ∧ w.cell? ⟨b, o + 2, none⟩ = some (.int .i64 x.bud) ∧
    CellE w b (o + 3) x.body ∧ w.cell? ⟨b, o + 9, none⟩ = some (.int .i64 x.a) ∧ (x.nm.size ≤ 9223372036854775807 ∧ I64 x.bud ∧ I64 x.a)
def InC (w : World) (b o : Nat) (x : IN) : Prop :=
  w.cell? ⟨b, o, none⟩ = some (.string x.nm) ∧ w.cell? ⟨b, o + 1, none⟩ = some (.int .i64 x.per) ∧ w.cell? ⟨b, o + 2, none⟩ = some (.int .i64 x.ph) ∧ w.cell? ⟨b, o + 3, none⟩ = some (.int .i64 x.a) ∧ (x.nm.size ≤ 9223372036854775807 ∧ I64 x.per ∧ I64 x.ph ∧ I64 x.a)
def FlC (w : World) (b o : Nat) (x : FL) : Prop :=
  w.cell? ⟨b, o, none⟩ = some (.string x.nm) ∧ CellE w b (o + 1) x.e ∧ w.cell? ⟨b, o + 7, none⟩ = some (.int .i64 x.a) ∧ (x.nm.size ≤ 9223372036854775807 ∧ I64 x.a)
def OuC (w : World) (b o : Nat) (x : OU) : Prop :=
  w.cell? ⟨b, o, none⟩ = some (.string x.nm) ∧ w.cell? ⟨b, o + 1, none⟩ = some (.string x.fl) ∧ w.cell? ⟨b, o + 2, none⟩ = some (.int .i64 x.dl) ∧ w.cell? ⟨b, o + 3, none⟩ = some (.int .i64 x.a) ∧ (x.nm.size ≤ 9223372036854775807 ∧ x.fl.size ≤ 9223372036854775807 ∧ I64 x.dl ∧ I64 x.a)

theorem CellE.below {w w' : World} {b o : Nat} {e : PE} (hb : Below w.heap.size w w') (hlt : b < w.heap.size) (h : CellE w b o e) : CellE w' b o e := by
  obtain ⟨ad, cap, h0, h1, h2, h3, h4, h5, h6⟩ := h
  have hc : ∀ o, w'.cell? ⟨b, o, none⟩ = w.cell? ⟨b, o, none⟩ := fun o => hb.cell (p := ⟨b, o, none⟩) hlt
  exact ⟨ad, cap, (hc _).trans h0, (hc _).trans h1, (hc _).trans h2, (hc _).trans h3, (hc _).trans h4, (hc _).trans h5, h6.below hb⟩
theorem strSta : Sta StrC := fun w w' b o x hb hlt h => ⟨(hb.cell (p := ⟨b, o, none⟩) hlt).trans h.1, h.2⟩
theorem nodeSta : Sta NodeC := fun w w' b o x hb hlt h => by
  have hc : ∀ o, w'.cell? ⟨b, o, none⟩ = w.cell? ⟨b, o, none⟩ := fun o => hb.cell (p := ⟨b, o, none⟩) hlt
  obtain ⟨h0, ⟨ad, cap, h1, h2, h3, h4⟩, h5, h6, h7, h8⟩ := h
  exact ⟨(hc _).trans h0, ⟨ad, cap, (hc _).trans h1, h2, h3, h4.below strSta hb⟩, (hc _).trans h5, h6.below hb hlt, (hc _).trans h7, h8⟩
theorem inSta : Sta InC := fun w w' b o x hb hlt h => by
  have hc : ∀ o, w'.cell? ⟨b, o, none⟩ = w.cell? ⟨b, o, none⟩ := fun o => hb.cell (p := ⟨b, o, none⟩) hlt
  obtain ⟨h0, h1, h2, h3, h4⟩ := h
  exact ⟨(hc _).trans h0, (hc _).trans h1, (hc _).trans h2, (hc _).trans h3, h4⟩
theorem flSta : Sta FlC := fun w w' b o x hb hlt h => by
  have hc : ∀ o, w'.cell? ⟨b, o, none⟩ = w.cell? ⟨b, o, none⟩ := fun o => hb.cell (p := ⟨b, o, none⟩) hlt
  obtain ⟨h0, h1, h2, h3⟩ := h
  exact ⟨(hc _).trans h0, h1.below hb hlt, (hc _).trans h2, h3⟩
theorem ouSta : Sta OuC := fun w w' b o x hb hlt h => by
  have hc : ∀ o, w'.cell? ⟨b, o, none⟩ = w.cell? ⟨b, o, none⟩ := fun o => hb.cell (p := ⟨b, o, none⟩) hlt
  obtain ⟨h0, h1, h2, h3, h4⟩ := h
  exact ⟨(hc _).trans h0, (hc _).trans h1, (hc _).trans h2, (hc _).trans h3, h4⟩

/-- A program in hand. -/
structure AP (w : World) (p : PG) (an ai af ao : Option Addr) (cn ci cf co : Nat) : Prop where
  nodes : Row NodeC 10 w p.nodes an
  ins : Row InC 4 w p.ins ai
  flows : Row FlC 8 w p.flows af
  outs : Row OuC 4 w p.outs ao
  caps : (p.nodes.length ≤ cn ∧ cn ≤ 9223372036854775807) ∧ (p.ins.length ≤ ci ∧ ci ≤ 9223372036854775807) ∧ (p.flows.length ≤ cf ∧ cf ≤ 9223372036854775807) ∧ (p.outs.length ≤ co ∧ co ≤ 9223372036854775807)
def pv (p : PG) (an ai af ao : Option Addr) (cn ci cf co : Nat) : Value := .agg #[.slice an p.nodes.length cn, .slice ai p.ins.length ci, .slice af p.flows.length cf, .slice ao p.outs.length co]
theorem AP.below {w w' : World} {p : PG} {an ai af ao : Option Addr} {cn ci cf co : Nat} (hb : Below w.heap.size w w') (h : AP w p an ai af ao cn ci cf co) : AP w' p an ai af ao cn ci cf co :=
  ⟨h.nodes.below nodeSta hb, h.ins.below inSta hb, h.flows.below flSta hb, h.outs.below ouSta hb, h.caps⟩

section
variable {H : Type} {enc : TypeId × Value → H} {w : World} {base : Nat} {sp : Nat → Bool} {held : Bool}

theorem nodeFields : (Try.prog.fieldsOf 50).toList.map (fun f => (f.type, f.offset)) = [(9, 0), (48, 1), (2, 2), (39, 3), (3, 9)] := by kernel_rfl
theorem nodeStruct : Try.prog.underlying 50 = some (.struct (Try.prog.fieldsOf 50)) := by kernel_rfl
theorem nodeCells : Try.prog.cellsOf 50 = 10 := by kernel_rfl
theorem inFields : (Try.prog.fieldsOf 47).toList.map (fun f => (f.type, f.offset)) = [(9, 0), (2, 1), (2, 2), (3, 3)] := by kernel_rfl
theorem inStruct : Try.prog.underlying 47 = some (.struct (Try.prog.fieldsOf 47)) := by kernel_rfl
theorem inCells : Try.prog.cellsOf 47 = 4 := by kernel_rfl
theorem flFields : (Try.prog.fieldsOf 41).toList.map (fun f => (f.type, f.offset)) = [(9, 0), (39, 1), (3, 7)] := by kernel_rfl
theorem flStruct : Try.prog.underlying 41 = some (.struct (Try.prog.fieldsOf 41)) := by kernel_rfl
theorem flCells : Try.prog.cellsOf 41 = 8 := by kernel_rfl
theorem ouFields : (Try.prog.fieldsOf 56).toList.map (fun f => (f.type, f.offset)) = [(9, 0), (9, 1), (2, 2), (3, 3)] := by kernel_rfl
theorem ouStruct : Try.prog.underlying 56 = some (.struct (Try.prog.fieldsOf 56)) := by kernel_rfl
theorem ouCells : Try.prog.cellsOf 56 = 4 := by kernel_rfl
theorem pgFields : (Try.prog.fieldsOf 27).toList.map (fun f => (f.type, f.offset)) = [(22, 0), (23, 1), (24, 2), (25, 3)] := by kernel_rfl
theorem pgStruct : Try.prog.underlying 27 = some (.struct (Try.prog.fieldsOf 27)) := by kernel_rfl
theorem pgCells : Try.prog.cellsOf 27 = 4 := by kernel_rfl
theorem slCells1 : Try.prog.cellsOf 48 = 1 := by kernel_rfl
theorem slCells2 : Try.prog.cellsOf 22 = 1 := by kernel_rfl
theorem slCells3 : Try.prog.cellsOf 23 = 1 := by kernel_rfl
theorem slCells4 : Try.prog.cellsOf 24 = 1 := by kernel_rfl
theorem slCells5 : Try.prog.cellsOf 25 = 1 := by kernel_rfl

theorem open_strs {n : Nat} {cs : List Value} {x} (h : DataW.trod enc Try.prog w base sp held n 48 cs = some x) : ∃ (l : List ByteArray) (ad : Option Addr) (cap : Nat), Row StrC 1 w l ad ∧ l.length ≤ cap ∧ cap ≤ 9223372036854775807 ∧ cs = [.slice ad l.length cap] :=
  open_row Try.underlying48 stringCells (by omega) (fun n cs x h => by
    obtain ⟨s, rfl, _, hs⟩ := DataW.trod_string Try.underlying9 h
    exact ⟨s, fun b o _ hc => ⟨by have := hc 0 (by omega); simpa using this, maxLen_le hs⟩⟩) h

theorem open_cellE {cs : List Value} {o : Nat} {n : Nat} {y} (h : DataW.trod enc Try.prog w base sp held n 39 ((cs.drop o).take 6) = some y) :
    ∃ e : PE, ∀ b p, (∀ j, j < 6 → w.cell? ⟨b, p + j, none⟩ = cs[o + j]?) → CellE w b p e := by
  obtain ⟨e, ad, cap, he, hcs⟩ := (open_expr n).1 _ _ h
  refine ⟨e, fun b p hc => ⟨ad, cap, ?_, ?_, ?_, ?_, ?_, ?_, he⟩⟩
  · exact (hc 0 (by omega)).trans ((sub_cell hcs (by omega)).trans rfl)
  · exact (hc 1 (by omega)).trans ((sub_cell hcs (by omega)).trans rfl)
  · exact (hc 2 (by omega)).trans ((sub_cell hcs (by omega)).trans rfl)
  · exact (hc 3 (by omega)).trans ((sub_cell hcs (by omega)).trans rfl)
  · exact (hc 4 (by omega)).trans ((sub_cell hcs (by omega)).trans rfl)
  · exact (hc 5 (by omega)).trans ((sub_cell hcs (by omega)).trans rfl)

theorem open_node (n : Nat) (cs : List Value) (x) (h : DataW.trod enc Try.prog w base sp held n 50 cs = some x) : ∃ a : ND, ∀ b o, b < w.heap.size → (∀ j, j < 10 → w.cell? ⟨b, o + j, none⟩ = cs[j]?) → NodeC w b o a := by
  obtain ⟨xs, n, rfl, _, hlen, hxl, hf⟩ := DataW.trod_struct nodeStruct h
  obtain ⟨y0, h0⟩ := field_cells nodeFields hxl hf 0 9 0 1 rfl stringCells
  obtain ⟨y1, h1⟩ := field_cells nodeFields hxl hf 1 48 1 1 rfl slCells1
  obtain ⟨y2, h2⟩ := field_cells nodeFields hxl hf 2 2 2 1 rfl int64Cells
  obtain ⟨y3, h3⟩ := field_cells nodeFields hxl hf 3 39 3 6 rfl exprCells
  obtain ⟨y4, h4⟩ := field_cells nodeFields hxl hf 4 3 9 1 rfl intCells
  obtain ⟨nm, e0, _, w0⟩ := DataW.trod_string Try.underlying9 h0
  obtain ⟨ps, ad, cap, hr, hp1, hp2, e1⟩ := open_strs h1
  obtain ⟨bud, e2, _, w2⟩ := DataW.trod_int Try.underlying2 h2
  obtain ⟨body, hbody⟩ := open_cellE h3
  obtain ⟨a, e4, _, w4⟩ := DataW.trod_int Try.underlying3 h4
  refine ⟨⟨nm, ps, bud, body, a⟩, fun b o hb hc => ⟨?_, ⟨ad, cap, ?_, hp1, hp2, hr⟩, ?_, hbody b (o + 3) (fun j hj => by rw [Nat.add_assoc]; exact hc (3 + j) (by omega)), ?_, maxLen_le w0, i64_of w2, i64_of w4⟩⟩
  · exact (hc 0 (by omega)).trans (one_cell e0)
  · exact (hc 1 (by omega)).trans (one_cell e1)
  · exact (hc 2 (by omega)).trans (one_cell e2)
  · exact (hc 9 (by omega)).trans (one_cell e4)

theorem open_in (n : Nat) (cs : List Value) (x) (h : DataW.trod enc Try.prog w base sp held n 47 cs = some x) : ∃ a : IN, ∀ b o, b < w.heap.size → (∀ j, j < 4 → w.cell? ⟨b, o + j, none⟩ = cs[j]?) → InC w b o a := by
  obtain ⟨xs, n, rfl, _, hlen, hxl, hf⟩ := DataW.trod_struct inStruct h
  obtain ⟨y0, h0⟩ := field_cells inFields hxl hf 0 9 0 1 rfl stringCells
  obtain ⟨y1, h1⟩ := field_cells inFields hxl hf 1 2 1 1 rfl int64Cells
  obtain ⟨y2, h2⟩ := field_cells inFields hxl hf 2 2 2 1 rfl int64Cells
  obtain ⟨y3, h3⟩ := field_cells inFields hxl hf 3 3 3 1 rfl intCells
  obtain ⟨nm, e0, _, w0⟩ := DataW.trod_string Try.underlying9 h0
  obtain ⟨per, e1, _, w1⟩ := DataW.trod_int Try.underlying2 h1
  obtain ⟨ph, e2, _, w2⟩ := DataW.trod_int Try.underlying2 h2
  obtain ⟨a, e3, _, w3⟩ := DataW.trod_int Try.underlying3 h3
  exact ⟨⟨nm, per, ph, a⟩, fun b o hb hc => ⟨(hc 0 (by omega)).trans (one_cell e0), (hc 1 (by omega)).trans (one_cell e1), (hc 2 (by omega)).trans (one_cell e2), (hc 3 (by omega)).trans (one_cell e3), maxLen_le w0, i64_of w1, i64_of w2, i64_of w3⟩⟩

theorem open_fl (n : Nat) (cs : List Value) (x) (h : DataW.trod enc Try.prog w base sp held n 41 cs = some x) : ∃ a : FL, ∀ b o, b < w.heap.size → (∀ j, j < 8 → w.cell? ⟨b, o + j, none⟩ = cs[j]?) → FlC w b o a := by
  obtain ⟨xs, n, rfl, _, hlen, hxl, hf⟩ := DataW.trod_struct flStruct h
  obtain ⟨y0, h0⟩ := field_cells flFields hxl hf 0 9 0 1 rfl stringCells
  obtain ⟨y1, h1⟩ := field_cells flFields hxl hf 1 39 1 6 rfl exprCells
  obtain ⟨y2, h2⟩ := field_cells flFields hxl hf 2 3 7 1 rfl intCells
  obtain ⟨nm, e0, _, w0⟩ := DataW.trod_string Try.underlying9 h0
  obtain ⟨e, he⟩ := open_cellE h1
  obtain ⟨a, e2, _, w2⟩ := DataW.trod_int Try.underlying3 h2
  exact ⟨⟨nm, e, a⟩, fun b o hb hc => ⟨(hc 0 (by omega)).trans (one_cell e0), he b (o + 1) (fun j hj => by rw [Nat.add_assoc]; exact hc (1 + j) (by omega)), (hc 7 (by omega)).trans (one_cell e2), maxLen_le w0, i64_of w2⟩⟩

theorem open_ou (n : Nat) (cs : List Value) (x) (h : DataW.trod enc Try.prog w base sp held n 56 cs = some x) : ∃ a : OU, ∀ b o, b < w.heap.size → (∀ j, j < 4 → w.cell? ⟨b, o + j, none⟩ = cs[j]?) → OuC w b o a := by
  obtain ⟨xs, n, rfl, _, hlen, hxl, hf⟩ := DataW.trod_struct ouStruct h
  obtain ⟨y0, h0⟩ := field_cells ouFields hxl hf 0 9 0 1 rfl stringCells
  obtain ⟨y1, h1⟩ := field_cells ouFields hxl hf 1 9 1 1 rfl stringCells
  obtain ⟨y2, h2⟩ := field_cells ouFields hxl hf 2 2 2 1 rfl int64Cells
  obtain ⟨y3, h3⟩ := field_cells ouFields hxl hf 3 3 3 1 rfl intCells
  obtain ⟨nm, e0, _, w0⟩ := DataW.trod_string Try.underlying9 h0
  obtain ⟨fl, e1, _, w1⟩ := DataW.trod_string Try.underlying9 h1
  obtain ⟨dl, e2, _, w2⟩ := DataW.trod_int Try.underlying2 h2
  obtain ⟨a, e3, _, w3⟩ := DataW.trod_int Try.underlying3 h3
  exact ⟨⟨nm, fl, dl, a⟩, fun b o hb hc => ⟨(hc 0 (by omega)).trans (one_cell e0), (hc 1 (by omega)).trans (one_cell e1), (hc 2 (by omega)).trans (one_cell e2), (hc 3 (by omega)).trans (one_cell e3), maxLen_le w0, maxLen_le w1, i64_of w2, i64_of w3⟩⟩

theorem open_pg {n : Nat} {cs : List Value} {x} (h : DataW.trod enc Try.prog w base sp held n 27 cs = some x) :
    ∃ (p : PG) (an ai af ao : Option Addr) (cn ci cf co : Nat), AP w p an ai af ao cn ci cf co ∧ cs = [.slice an p.nodes.length cn, .slice ai p.ins.length ci, .slice af p.flows.length cf, .slice ao p.outs.length co] := by
  obtain ⟨xs, n, rfl, _, hlen, hxl, hf⟩ := DataW.trod_struct pgStruct h
  rw [pgCells] at hlen
  obtain ⟨y0, h0⟩ := field_cells pgFields hxl hf 0 22 0 1 rfl slCells2
  obtain ⟨y1, h1⟩ := field_cells pgFields hxl hf 1 23 1 1 rfl slCells3
  obtain ⟨y2, h2⟩ := field_cells pgFields hxl hf 2 24 2 1 rfl slCells4
  obtain ⟨y3, h3⟩ := field_cells pgFields hxl hf 3 25 3 1 rfl slCells5
  obtain ⟨nodes, an, cn, rn, n1, n2, en⟩ := open_row Try.underlying22 nodeCells (by omega) open_node h0
  obtain ⟨ins, ai, ci, ri, i1, i2, ei⟩ := open_row Try.underlying23 inCells (by omega) open_in h1
  obtain ⟨flows, af, cf, rf, f1, f2, ef⟩ := open_row Try.underlying24 flCells (by omega) open_fl h2
  obtain ⟨outs, ao, co, ro, o1, o2, eo⟩ := open_row Try.underlying25 ouCells (by omega) open_ou h3
  refine ⟨⟨nodes, ins, flows, outs⟩, an, ai, af, ao, cn, ci, cf, co, ⟨rn, ri, rf, ro, ⟨n1, n2⟩, ⟨i1, i2⟩, ⟨f1, f2⟩, ⟨o1, o2⟩⟩, ?_⟩
  have g0 := one_cell en
  have g1 := one_cell ei
  have g2 := one_cell ef
  have g3 := one_cell eo
  refine List.ext_getElem? fun i => ?_
  by_cases hi : i < 4
  · obtain rfl | rfl | rfl | rfl : i = 0 ∨ i = 1 ∨ i = 2 ∨ i = 3 := by omega
    · exact g0
    · exact g1
    · exact g2
    · exact g3
  · rw [List.getElem?_eq_none (by omega), List.getElem?_eq_none (by simp; omega)]
end

end Go.Proofs.Ytjcmjlkihfcdcaa.syn
