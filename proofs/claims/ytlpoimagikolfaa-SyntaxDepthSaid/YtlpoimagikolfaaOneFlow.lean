/-
  Contract of the reader's program, for texts of one flow.
-/
import Derived.Test.YtlpoimagikolfaaFlow2
import Derived.Deep.AppendLies
import Derived.Deep.RegionHeld3
namespace Go.Proofs.Ytlpoimagikolfaa.syn
open Go.RowKit
set_option linter.unusedVariables false
set_option linter.unusedSimpArgs false

theorem infoFl : (Try.prog.info? 49).map (fun i => (i.zero, i.size, i.bytes)) = some (some (.agg #[.string ⟨#[]⟩, .int .i64 0, .string ⟨#[]⟩, .int .i64 0, .int .i64 0, .slice none 0 0, .int .i64 0, .int .i64 0]), 8, 96) := by kernel_rfl

def sNode : ByteArray := ⟨#[110, 111, 100, 101]⟩
def sInput : ByteArray := ⟨#[105, 110, 112, 117, 116]⟩
def sFlow : ByteArray := ⟨#[102, 108, 111, 119]⟩
def sOutput : ByteArray := ⟨#[111, 117, 116, 112, 117, 116]⟩

theorem Rd.toks {w : World} {r : Nat} {en : Int} {S : St} (h : Rd w r en S) : ∃ a cap, w.cell? ⟨r, 0, none⟩ = some (.slice a S.toks.length cap) := by
  obtain ⟨⟨tv, wb, h1, h2, _⟩, _⟩ := h
  have h0 := (blk_cells h1).1
  rcases h2 with ⟨a, cap, rfl, e⟩ | ⟨tb, o, cap, rfl, _⟩
  · exact ⟨a, cap, by rw [h0, e]; rfl⟩
  · exact ⟨_, _, h0⟩
theorem Rd.errs {w : World} {r : Nat} {en : Int} {S : St} (h : Rd w r en S) : w.cell? ⟨r, 3, none⟩ = some (.int .i64 S.at_) ∧ w.cell? ⟨r, 4, none⟩ = some (.int .i64 S.err) := by
  obtain ⟨⟨tv, wb, h1, _⟩, _⟩ := h
  exact ⟨(blk_cells h1).2.2.2.1, (blk_cells h1).2.2.2.2⟩

/-- A flow lies from a block's first cell on. -/
def FlowAt (w : World) (P : Nat → Prop) (fb : Nat) (f : PF) : Prop :=
  w.cell? ⟨fb, 0, none⟩ = some (.string f.nm) ∧ w.cell? ⟨fb, 1, none⟩ = some (.int .i64 f.e.k) ∧ w.cell? ⟨fb, 2, none⟩ = some (.string f.e.nm) ∧ w.cell? ⟨fb, 3, none⟩ = some (.int .i64 f.e.n) ∧ w.cell? ⟨fb, 4, none⟩ = some (.int .i64 f.e.d) ∧
  w.cell? ⟨fb, 6, none⟩ = some (.int .i64 f.e.a) ∧ w.cell? ⟨fb, 7, none⟩ = some (.int .i64 f.a) ∧ ∃ ad cap, w.cell? ⟨fb, 5, none⟩ = some (.slice ad f.e.args.len cap) ∧ f.e.args.len ≤ cap ∧ SlA w P f.e.args ad

theorem FlowAt.keep {w w' : World} {P : Nat → Prop} {fb : Nat} {f : PF} (h : FlowAt w P fb f) (hs : Same P w w') (hP : P fb) : FlowAt w' P fb f := by
  obtain ⟨h0, h1, h2, h3, h4, h6, h7, ad, cap, h5, hcap, hA⟩ := h
  have hc : ∀ o, w'.cell? ⟨fb, o, none⟩ = w.cell? ⟨fb, o, none⟩ := fun o => World.cell?_of_block (w := w) (a := ⟨fb, o, none⟩) (hs.block fb hP (World.block_lt_of_cell? _ _ h0))
  exact ⟨(hc _).trans h0, (hc _).trans h1, (hc _).trans h2, (hc _).trans h3, (hc _).trans h4, (hc _).trans h6, (hc _).trans h7, ad, cap, (hc _).trans h5, hcap, hA.keep hs⟩
theorem FlowAt.mono {w : World} {P Q : Nat → Prop} {fb : Nat} {f : PF} (h : FlowAt w P fb f) (hPQ : ∀ b, P b → b < w.heap.size → Q b) : FlowAt w Q fb f := by
  obtain ⟨h0, h1, h2, h3, h4, h6, h7, ad, cap, h5, hcap, hA⟩ := h
  exact ⟨h0, h1, h2, h3, h4, h6, h7, ad, cap, h5, hcap, hA.mono hPQ⟩

def Z4 : Obj := .cells #[.slice none 0 0, .slice none 0 0, .slice none 0 0, .slice none 0 0] 27

theorem cells4' {w : World} {b : Nat} {v0 v1 v2 v3 : Value} {t : TypeId} (h : w.heap[b]? = some (.cells #[v0, v1, v2, v3] t (0, 0))) :
    (w.cell? ⟨b, 0, none⟩ = some v0 ∧ w.cell? ⟨b, 1, none⟩ = some v1 ∧ w.cell? ⟨b, 2, none⟩ = some v2 ∧ w.cell? ⟨b, 3, none⟩ = some v3) ∧ ∀ o, w.frozen? ⟨b, o, none⟩ = false := by
  refine ⟨⟨?_, ?_, ?_, ?_⟩, ?_⟩
  all_goals first | (intro o; simp [World.frozen?, h]) | simp [World.cell?, h]

theorem own_cells8 {w : World} {base g n cap : Nat} {e : TypeId} {v0 v1 v2 v3 v4 v5 v6 v7 : Value} (h : w.ownsRow base e 8 (.slice (some ⟨g, 0, none⟩) (0 + n) cap) (0 + n) ([] ++ [v0, v1, v2, v3, v4, v5, v6, v7])) :
    w.cell? ⟨g, 0, none⟩ = some v0 ∧ w.cell? ⟨g, 1, none⟩ = some v1 ∧ w.cell? ⟨g, 2, none⟩ = some v2 ∧ w.cell? ⟨g, 3, none⟩ = some v3 ∧ w.cell? ⟨g, 4, none⟩ = some v4 ∧ w.cell? ⟨g, 5, none⟩ = some v5 ∧ w.cell? ⟨g, 6, none⟩ = some v6 ∧ w.cell? ⟨g, 7, none⟩ = some v7 := by
  have hc := h.cells (g := g) rfl
  refine ⟨hc 0 v0 rfl, hc 1 v1 rfl, hc 2 v2 rfl, hc 3 v3 rfl, hc 4 v4 rfl, hc 5 v5 rfl, hc 6 v6 rfl, hc 7 v7 rfl⟩
theorem _root_.Go.World.ownsRow.cap1 {w : World} {base g cap : Nat} {e : TypeId} {size : Nat} {xs : List Value} (h : w.ownsRow base e size (.slice (some ⟨g, 0, none⟩) (0 + 1) cap) (0 + 1) xs) : 1 ≤ cap := by
  rcases h.2 with ⟨e, _⟩ | ⟨g', c', cur, e, _, _, h1, _⟩
  · cases e
  · injection e with _ _ e; omega

/-- What holds at the loop's head: nothing is read yet, or the flow is read. -/
def PgRel (w : World) (r : Nat) (en : Int) (S : St) (A : PF × St) (v4 : Value) (wr : World) : Prop :=
  w.heap.size + 2 ≤ wr.heap.size ∧ wr.heap[w.heap.size]? = some Z4 ∧ Upon r w wr ∧
  ((v4 = .int .i64 0 ∧ Rd wr r en S ∧ wr.heap[w.heap.size + 1]? = some Z4) ∨
   (v4 = .int .i64 1 ∧ Rd wr r en A.2 ∧ ∃ fb cap, wr.heap[w.heap.size + 1]? = some (.cells #[.slice none 0 0, .slice none 0 0, .slice (some ⟨fb, 0, none⟩) 1 cap, .slice none 0 0] 27 (0, 0)) ∧ 1 ≤ cap ∧ w.heap.size + 2 ≤ fb ∧ FlowAt wr (fun b => w.heap.size + 2 ≤ b) fb A.1))

def ProgAns (w : World) (r : Nat) (en : Int) (A : PF × St) (e : Ending) (w' : World) : Prop :=
  ∃ fb cap, e = .returned (.agg #[.slice none 0 0, .slice none 0 0, .slice (some ⟨fb, 0, none⟩) 1 cap, .slice none 0 0]) ∧ 1 ≤ cap ∧ w.heap.size ≤ fb ∧ FlowAt w' (fun b => w.heap.size ≤ b) fb A.1 ∧ Rd w' r en A.2 ∧ Upon r w w'

set_option maxRecDepth 100000 in
set_option maxHeartbeats 4000000 in
theorem program_one {w : World} {r : Nat} {en : Int} {S : St} (h : Rd w r en S) (hne : S.toks ≠ []) {k1 n1 a1 : Int} {S1 : St} (hw1 : S.want en [sNode, sInput, sFlow, sOutput] = (⟨k1, sFlow, n1, a1⟩, S1)) (A : PF × St) (hend : A.2.toks = [])
    (HE : ∀ w1, Upon r w w1 → Rd w1 r en S1 → Calls Try.prog 39 #[.pointer (some ⟨r, 0, none⟩)] w1 (FlowAns w1 r en A)) :
    Calls Try.prog 24 #[.pointer (some ⟨r, 0, none⟩)] w (ProgAns w r en A) := by
  have HR := Lib.hid h
  have hr := h.lt
  have HW1 := Lib.hid hw1
  have HF := Lib.hid (fun w1 (h : Upon r w w1 ∧ Rd w1 r en S1) => HE w1 h.1 h.2)
  have HN := Lib.hid hne
  have HEND := Lib.hid hend
  clear HE h hw1 hne hend
  go_enter Try.func24, Try.ntmps24
  go_wp2
  go_loopw [4] (fun v4 wr => Hid (PgRel w r en S A v4 wr)) (fun v _ => 1 - (intOf v).toNat)
  case atStart =>
    refine ⟨by simp, ?_, (by repeat (first | (with_reducible exact Upon.refl _ _) | ((with_reducible refine Upon.setAt ?_ ?_ _); (rotate_left; focus (first | exact Or.inl rfl | omega | (simp; done) | (simp; omega)))) | (with_reducible refine Upon.alloc ?_ _) | (with_reducible refine Upon.drewN ?_ _) | (with_reducible refine Upon.drew ?_))), .inl ⟨rfl, Rd.below HR.out (by repeat (first | (with_reducible exact Below.refl _ _) | ((with_reducible refine below_setAt ?_ ?_ _); (rotate_left; focus (first | omega | (simp; done) | (simp; omega)))) | ((with_reducible refine Below.alloc ?_ ?_ _); (rotate_left; focus (first | omega | (simp; done) | (simp; omega)))) | (with_reducible refine below_drewN ?_ _) | (with_reducible refine Below.drew ?_))), ?_⟩⟩
    · exact (heap_alloc_old _ _ (by simp)).trans (heap_new w Z4)
    · have := heap_new (w.alloc Z4) Z4; rw [show (w.alloc Z4).heap.size = w.heap.size + 1 by simp] at this; exact this
  case round =>
    obtain ⟨hsz, hz0, hup, hh⟩ := hrel.out
    clear hrel
    have HUP := Lib.hid hup
    have HZ0 := Lib.hid hz0
    clear hup hz0
    rcases hh with ⟨rfl, hR, hz⟩ | ⟨rfl, hR, fb, cap, hz, hcap, hfb, hfl⟩
    · obtain ⟨tv, tcap, ht⟩ := hR.toks
      have hlen : (0 : Int) < (S.toks.length : Int) := by have := List.length_pos_iff.2 HN.out; omega
      have hrr := hR.lt
      have HRR := Lib.hid hR
      have HZ := Lib.hid hz
      clear hR hz
      have hrn : ¬ w.heap.size = r := by omega
      have hrn1 : ¬ w.heap.size + 1 = r := by omega
      have t1 : (sFlow.toList == [110, 111, 100, 101]) = false := by rw [Lib.toList_data]; rfl
      have t2 : (sFlow.toList == [105, 110, 112, 117, 116]) = false := by rw [Lib.toList_data]; rfl
      have t3 : (sFlow.toList == [102, 108, 111, 119]) = true := by rw [Lib.toList_data]; rfl
      have hz' : wr.heap[w.heap.size + 1]? = some (.cells #[.slice none 0 0, .slice none 0 0, .slice none 0 0, .slice none 0 0] 27) := HZ.out
      obtain ⟨i0, hi0, hi1, hi2, hi3⟩ := info_parts infoFl
      have HI := Lib.hid (And.intro hi0 (And.intro hi1 (And.intro hi2 hi3)))
      have HZ' := Lib.hid hz'
      clear hi0 hi1 hi2 hi3 hz'
      repeat' (first | (go_at_call 35; refine (want_any (Rd.below HRR.out ?_) _ _ _ [sNode, sInput, sFlow, sOutput] rfl (by simp) ?_ ?_ HW1.out).mono ?_; exact (by repeat (first | (with_reducible exact Below.refl _ _) | ((with_reducible refine below_setAt ?_ ?_ _); (rotate_left; focus (first | omega | (simp; done) | (simp; omega)))) | ((with_reducible refine Below.alloc ?_ ?_ _); (rotate_left; focus (first | omega | (simp; done) | (simp; omega)))) | (with_reducible refine below_drewN ?_ _) | (with_reducible refine Below.drew ?_))); (focus (first | omega | (simp; done) | (simp; omega))); exact strs4 _ _ _ _ _ _ (by simp); rintro e w2 ⟨rfl, hR2, hu2⟩; have HR2 := Lib.hid hR2; have hr2 := hR2.lt; clear hR2; have l2 : wr.heap.size < w2.heap.size := Nat.lt_of_lt_of_le (by simp) hu2.size; have hz2 := (hu2.block (w.heap.size + 1) (by simp; omega) (by omega)).trans ((heap_alloc_old _ _ (by omega)).trans HZ'.out); have HU2 := Lib.hid ((by repeat (first | (with_reducible exact Upon.refl _ _) | ((with_reducible refine Upon.setAt ?_ ?_ _); (rotate_left; focus (first | exact Or.inl rfl | omega | (simp; done) | (simp; omega)))) | (with_reducible refine Upon.alloc ?_ _) | (with_reducible refine Upon.drewN ?_ _) | (with_reducible refine Upon.drew ?_) | (with_reducible refine Upon.trans ?_ hu2))) : Upon r wr w2); have HZ2 := Lib.hid hz2; obtain ⟨⟨z0, z1, z2, z3⟩, zf⟩ := cells4' hz2; clear hz2 ht; have lp : w.heap.size + 1 < w2.heap.size := (by omega); have np : ¬ w2.heap.size = w.heap.size + 1 := (by omega); have np' : ¬ w.heap.size + 1 = w2.heap.size := (by omega)) | go_values | go_skip | go_guarded | go_step | go_upon | (simp only [Int.not_lt, Int.not_le] at *; go_simp) | (go_values <;> (try go_simp)) | (go_ite <;> go_prune <;> (try go_simp)) | (split <;> (first | (rename_i hx; exact (hx _ rfl).elim) | go_prune)))
      go_region_law (first | (refine step_append_lies _ (by rfl) _ _ _ (by rfl) w.heap.size 49 i0 _ 8 96 Try.underlying24 HI.out.1 HI.out.2.1 HI.out.2.2.1 HI.out.2.2.2 rfl (by omega) (.slice none 0 0) 0 [] (by rfl) (World.ownsRow_nil _ _ _ _) ⟨w3.heap.size, 0, none⟩ 1 1 [.string A.1.nm, .int .i64 A.1.e.k, .string A.1.e.nm, .int .i64 A.1.e.n, .int .i64 A.1.e.d, .slice ad5 A.1.e.args.len cap5, .int .i64 A.1.e.a, .int .i64 A.1.a] (by rfl) (by rfl) (World.news_of_block (heap_alloc_new w3 _)) (by simp [Value.oneCell']) (by omega) (by unfold maxLen; omega) (by omega) (by simp; omega) (w3.heap.size + 1) (by simp) ?_; intro gg cap w4 hown4 hgrow4 hat4 hlt4; have kf4 : w4.frozen? ⟨w.heap.size + 1, 2, none⟩ = false := ((hgrow4.frozen_far ⟨w.heap.size + 1, 2, none⟩ (by simp; omega) (by simp [Value.ownBlock])).trans (by go_simp)); have kz4 : w4.cell? ⟨w.heap.size + 1, 2, none⟩ = some (.slice none 0 0) := ((hgrow4.cell_far ⟨w.heap.size + 1, 2, none⟩ (by simp; omega) (by simp [Value.ownBlock])).trans (by go_simp))) | (go_simp; go_at_call 39; refine (HF.out _ ⟨?_, ?_⟩).mono ?_; exact (by repeat (first | (with_reducible exact Upon.refl _ _) | ((with_reducible refine Upon.setAt ?_ ?_ _); (rotate_left; focus (first | exact Or.inl rfl | omega | (simp; done) | (simp; omega)))) | (with_reducible refine Upon.alloc ?_ _) | (with_reducible refine Upon.drewN ?_ _) | (with_reducible refine Upon.drew ?_) | (with_reducible refine Upon.trans ?_ HU2.out) | (with_reducible refine Upon.trans ?_ HUP.out))); exact (Rd.below HR2.out (by repeat (first | (with_reducible exact Below.refl _ _) | ((with_reducible refine below_setAt ?_ ?_ _); (rotate_left; focus (first | omega | (simp; done) | (simp; omega)))) | ((with_reducible refine Below.alloc ?_ ?_ _); (rotate_left; focus (first | omega | (simp; done) | (simp; omega)))) | (with_reducible refine below_drewN ?_ _) | (with_reducible refine Below.drew ?_)))); rintro e w3 ⟨⟨ad5, cap5, rfl, hcap5, hs5⟩, hR3, hu3⟩; have HR3 := Lib.hid hR3; have HS5 := Lib.hid hs5; clear hR3 hs5; have l3 : w2.heap.size < w3.heap.size := Nat.lt_of_lt_of_le (by simp) hu3.size; have kc3 : w3.cell? ⟨w.heap.size + 1, 2, none⟩ = some (.slice none 0 0) := ((hu3.cell (p := ⟨w.heap.size + 1, 2, none⟩) (by simp; omega) (by show w.heap.size + 1 ≠ r; omega)).trans (by go_simp)); have kf3 : w3.frozen? ⟨w.heap.size + 1, 2, none⟩ = false := ((hu3.frozen (p := ⟨w.heap.size + 1, 2, none⟩) (by simp; omega) (by show w.heap.size + 1 ≠ r; omega)).trans (by go_simp)); have lq : w.heap.size + 1 < w3.heap.size := (by omega)))
      all_goals
        have hb4 := Below.grown (Below.refl _ _) hgrow4 (Nat.le_refl _) (fun k e => by cases e)
        have hgg : gg = w3.heap.size + 1 := by rcases hat4 with h | h; (· cases h); (· exact h)
        have HO4 := Lib.hid hown4
        have HGG := Lib.hid hgg
        have HB4 := Lib.hid hb4
        have HU3 := Lib.hid hu3
        clear hb4 hgg hown4 hgrow4 hat4 hu3
        go_wp2
        go_roundw
        case rel =>
          have hb4 := HB4.out
          have hu3 := HU3.out
          have hu2 := HU2.out
          have hup := HUP.out
          have hgg := HGG.out
          have hg4 : gg ≠ w.heap.size + 1 := by omega
          have hc := own_cells8 HO4.out
          have hcc : ∀ o, (w4.setCell ⟨w.heap.size + 1, 2, none⟩ (.slice (some ⟨gg, 0, none⟩) (0 + 1) cap)).cell? ⟨gg, o, none⟩ = w4.cell? ⟨gg, o, none⟩ := fun o => World.cell?_of_block (w := w4) (a := ⟨gg, o, none⟩) (Below.heap_setCell _ _ _ _ (fun e => hg4 e))
          have hs3 : w3.heap.size + 1 ≤ w4.heap.size := by have := hb4.size; simp at this; omega
          refine ⟨by simp [World.setCell]; omega, ?_, (by repeat (first | (with_reducible exact Upon.refl _ _) | ((with_reducible refine Upon.setAt ?_ ?_ _); (rotate_left; focus (first | exact Or.inl rfl | omega | (simp; done) | (simp; omega)))) | (with_reducible refine Upon.alloc ?_ _) | (with_reducible refine Upon.drewN ?_ _) | (with_reducible refine Upon.drew ?_) | (with_reducible refine Upon.trans ?_ (Upon.of_below hb4)) | (with_reducible refine Upon.trans ?_ hu3) | (with_reducible refine Upon.trans ?_ hu2) | (with_reducible refine Upon.trans ?_ hup))), .inr ⟨by simp, Rd.below HR3.out (by repeat (first | (with_reducible exact Below.refl _ _) | ((with_reducible refine below_setAt ?_ ?_ _); (rotate_left; focus (first | omega | (simp; done) | (simp; omega)))) | ((with_reducible refine Below.alloc ?_ ?_ _); (rotate_left; focus (first | omega | (simp; done) | (simp; omega)))) | (with_reducible refine below_drewN ?_ _) | (with_reducible refine Below.drew ?_) | ((with_reducible refine Below.trans ?_ (Below.mono hb4 ?_)); (rotate_left; focus (first | omega | (simp; done) | (simp; omega)))))), gg, cap, ?_, HO4.out.cap1, by omega, ?_⟩⟩
          · exact (((by repeat (first | (with_reducible exact Same.refl _ _) | (with_reducible refine Same.alloc ?_ _) | (with_reducible refine Same.drewN ?_ _) | (with_reducible refine Same.drew ?_) | ((with_reducible refine Same.setCell ?_ ?_ _); focus (omega)) | (with_reducible refine Same.of_below hb4 ?_) | ((with_reducible refine Same.upon ?_ hu3 ?_); focus (omega)) | ((with_reducible refine Same.upon ?_ hu2 ?_); focus (omega)))) : Same (fun b => b = w.heap.size) wr _).block _ rfl (by omega)).trans HZ0.out
          · exact setc ((((by repeat (first | (with_reducible exact Same.refl _ _) | (with_reducible refine Same.alloc ?_ _) | (with_reducible refine Same.drewN ?_ _) | (with_reducible refine Same.drew ?_) | ((with_reducible refine Same.setCell ?_ ?_ _); focus (omega)) | (with_reducible refine Same.of_below hb4 ?_) | ((with_reducible refine Same.upon ?_ hu3 ?_); focus (omega)))) : Same (fun b => b = w.heap.size + 1) w2 w4).block _ rfl (by omega)).trans HZ2.out) 2 _
          · unfold FlowAt
            simp only [hcc]
            refine ⟨hc.1, hc.2.1, hc.2.2.1, hc.2.2.2.1, hc.2.2.2.2.1, hc.2.2.2.2.2.2.1, hc.2.2.2.2.2.2.2, ad5, cap5, hc.2.2.2.2.2.1, hcap5, ?_⟩
            refine SlA.mono (P := fun b => w2.heap.size < b) ?_ (fun b h _ => by have h' : w2.heap.size < b := h; show w.heap.size + 2 ≤ b; omega)
            exact (HS5.out.mono (fun b h _ => by simp at h; show w2.heap.size < b; omega)).keep (by repeat (first | (with_reducible exact Same.refl _ _) | (with_reducible refine Same.alloc ?_ _) | (with_reducible refine Same.drewN ?_ _) | (with_reducible refine Same.drew ?_) | ((with_reducible refine Same.setCell ?_ ?_ _); focus (omega)) | (with_reducible refine Same.of_below hb4 ?_)))
        case measure => simp [intOf]
    · obtain ⟨tv, tcap, ht⟩ := hR.toks
      rw [HEND.out] at ht
      obtain ⟨⟨z0, z1, z2, z3⟩, zf⟩ := cells4' hz
      obtain ⟨⟨y0, y1, y2, y3⟩, yf⟩ := cells4' HZ0.out
      have hrr := hR.lt
      have HRR := Lib.hid hR
      have HFL := Lib.hid hfl
      clear hR hz hfl
      go_wp2
      refine bodyPost_ret (v := .agg #[.slice none 0 0, .slice none 0 0, .slice (some ⟨fb, 0, none⟩) 1 cap, .slice none 0 0]) ?_ rfl ?_; focus (simp only [results, Try.results24]; go_simp)
      refine ⟨fb, cap, rfl, hcap, by omega, ?_, Rd.below HRR.out (by repeat (first | (with_reducible exact Below.refl _ _) | ((with_reducible refine below_setAt ?_ ?_ _); (rotate_left; focus (first | omega | (simp; done) | (simp; omega)))) | ((with_reducible refine Below.alloc ?_ ?_ _); (rotate_left; focus (first | omega | (simp; done) | (simp; omega)))) | (with_reducible refine below_drewN ?_ _) | (with_reducible refine Below.drew ?_))), (by repeat (first | (with_reducible exact Upon.refl _ _) | ((with_reducible refine Upon.setAt ?_ ?_ _); (rotate_left; focus (first | exact Or.inl rfl | omega | (simp; done) | (simp; omega)))) | (with_reducible refine Upon.alloc ?_ _) | (with_reducible refine Upon.drewN ?_ _) | (with_reducible refine Upon.drew ?_) | (with_reducible refine Upon.trans ?_ HUP.out)))⟩
      exact (HFL.out.keep (by repeat (first | (with_reducible exact Same.refl _ _) | (with_reducible refine Same.alloc ?_ _) | (with_reducible refine Same.drewN ?_ _) | (with_reducible refine Same.drew ?_) | ((with_reducible refine Same.setCell ?_ ?_ _); focus (omega)))) hfb).mono (fun b h _ => by have h' : w.heap.size + 2 ≤ b := h; show w.heap.size ≤ b; omega)

end Go.Proofs.Ytlpoimagikolfaa.syn
