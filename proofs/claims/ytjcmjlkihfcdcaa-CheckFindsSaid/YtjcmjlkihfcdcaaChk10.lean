/-
  Every call's arguments have one clock: askCalls.
-/
import Derived.Shelf.Abstract
import Derived.Test.YtjcmjlkihfcdcaaChk9
namespace Go.Proofs.Ytjcmjlkihfcdcaa.syn
open Go.RowKit Go.Shelf
set_option linter.unusedVariables false
set_option linter.unusedSimpArgs false
attribute [local go_sem] Oper.semAt_some

def okE (env : Env) (e : PE) : Bool := decide (e.k ≠ 2) || ckA env e.args
def callsOK (env : Env) (flows : List FL) : Bool := (itemsF flows).all (okE env)
/-- An expression's box. -/
def EBox (W : World) (b : Nat) (v : Array Value) : Prop := ∃ k nm n d ad len cap a, v = #[.agg #[.int .i64 k, .string nm, .int .i64 n, .int .i64 d, .slice ad len cap, .int .i64 a]] ∧ W.heap[b]? = some (.cells #[.int .i64 k, .string nm, .int .i64 n, .int .i64 d, .slice ad len cap, .int .i64 a] 39 (0, 0))
theorem eBox_own (b : Nat) (v : Array Value) : Own (fun (_ : Unit) W => EBox W b v) := fun s X Y row hs hg hrow => by
  obtain ⟨k, nm, n, d, ad, len, cap, a, h1, h2⟩ := hs
  refine ⟨k, nm, n, d, ad, len, cap, a, h1, (hg.block b (Array.getElem?_eq_some_iff.1 h2).1 (fun e => ?_)).trans h2⟩
  obtain ⟨o, ho, hc⟩ := hrow b e.symm
  rw [h2] at ho; cases ho; cases hc

set_option maxRecDepth 100000 in
set_option maxHeartbeats 4000000 in
theorem askCalls_any {w : World} (flows : List FL) (af : Option Addr) (cf mb : Nat) (L : List (ByteArray × Value)) (env : Env) (hr : Row FlC 8 w flows af) (hc1 : flows.length ≤ cf) (hc2 : cf ≤ 9223372036854775807)
    (hM : MapS w mb L) (hE : EnvIs L env) :
    Calls Try.prog 31 #[.map (some mb), .slice af flows.length cf] w fun x w' => AskAns (callsOK env flows) x ∧ Below w.heap.size w w' := by
  have HR := Lib.hid hr
  have HM := Lib.hid hM
  clear hr hM
  have HWI := Lib.hid (fun w => within_any (w := w) af flows.length cf)
  refine (callsIn_wide (n := 6)).1 ?_
  refine callsIn_of_wp_marks Try.func31 rfl trivial ?_ rfl
  simp only [Try.ntmps31, List.size_toArray, List.length_cons, List.length_nil, Nat.reduceAdd, Nat.reduceSub, Array.replicate_succ, Array.replicate_zero, List.push_toArray, List.append_toArray, List.nil_append, List.cons_append]
  gi_wp2_with (refine ⟨trivial, ?_⟩; gi_at_call 41; refine (callsIn_wide.2 (HWI.out _)).mono ?_; rintro e w' ⟨rfl, rfl⟩)
  have bM := (((Boxed.new w 66 (.map (some mb))).alloc (.cells #[.int .i64 0] 3)).alloc (.cells #[.int .i64 0] 30)).alloc (.cells #[.slice af flows.length cf] 24)
  have bA := ((Boxed.new (w.alloc (.cells #[.map (some mb)] 66)) 3 (.int .i64 0)).alloc (.cells #[.int .i64 0] 30)).alloc (.cells #[.slice af flows.length cf] 24)
  have bE := (Boxed.new ((w.alloc (.cells #[.map (some mb)] 66)).alloc (.cells #[.int .i64 0] 3)) 30 (.int .i64 0)).alloc (.cells #[.slice af flows.length cf] 24)
  have bS := Boxed.new (((w.alloc (.cells #[.map (some mb)] 66)).alloc (.cells #[.int .i64 0] 3)).alloc (.cells #[.int .i64 0] 30)) 24 (.slice af flows.length cf)
  simp only [World.size_alloc] at bA bE bS
  have hB0 : Below w.heap.size w ((((w.alloc (.cells #[.map (some mb)] 66)).alloc (.cells #[.int .i64 0] 3)).alloc (.cells #[.int .i64 0] 30)).alloc (.cells #[.slice af flows.length cf] 24)) := (by repeat (first | (with_reducible exact Below.refl _ _) | ((with_reducible refine below_setAt ?_ ?_ _); (rotate_left; focus (first | omega | (simp; done) | (simp; omega)))) | ((with_reducible refine Below.alloc ?_ ?_ _); (rotate_left; focus (first | omega | (simp; done) | (simp; omega)))) | (with_reducible refine below_drewN ?_ _) | (with_reducible refine Below.drew ?_)))
  have hsz : ((((w.alloc (.cells #[.map (some mb)] 66)).alloc (.cells #[.int .i64 0] 3)).alloc (.cells #[.int .i64 0] 30)).alloc (.cells #[.slice af flows.length cf] 24)).heap.size = w.heap.size + 4 := by simp
  obtain ⟨W0, hW0⟩ : ∃ W0, (((w.alloc (.cells #[.map (some mb)] 66)).alloc (.cells #[.int .i64 0] 3)).alloc (.cells #[.int .i64 0] 30)).alloc (.cells #[.slice af flows.length cf] 24) = W0 := ⟨_, rfl⟩
  try simp only [World.size_alloc]
  rw [hW0] at bM bA bE bS hB0 hsz ⊢
  clear hW0
  have hszw : w.heap.size ≤ W0.heap.size := by omega
  refine wpIn_rangeFunc_ownH (encs := fun x : VX w => #[.agg #[.int .i64 x.e.k, .string x.e.nm, .int .i64 x.e.n, .int .i64 x.e.d, .slice x.ad x.e.args.len x.cap, .int .i64 x.e.a]]) rfl (by omega) (gf := 50) (lb := #[.pointer (some ⟨w.heap.size + 1 + 1 + 1, 0, none⟩)]) rfl trivial (enters_of Try.func50 (by kernel_rfl) rfl)
    (within_stops (W0 := w) Fence.wide rfl trivial trivial rfl _ (w.heap.size + 1 + 1 + 1) flows af cf HR.out hc1 hc2 W0 (by omega) hB0 bS.cell) (fun h k => h.trans k) (fun W l o o' hl h hc _ => KC.putObj W l o o' (by omega) h hc) (Below.refl _ _) (fun _ => rfl)
    (fun pre W => ((Boxed W w.heap.size 66 (.map (some mb)) ∧ Boxed W (w.heap.size + 1) 3 (.int .i64 0)) ∧ Boxed W (w.heap.size + 1 + 1) 30 (.int .i64 0)) ∧ Below w.heap.size w W ∧ (pre.map (·.e)).all (okE env) = true)
    (fun c pre W => ∃ a er, ((Boxed W (w.heap.size + 1) 3 (.int .i64 a) ∧ Boxed W (w.heap.size + 1 + 1) 30 (.int .i64 er)) ∧ Below w.heap.size w W) ∧ (c = .ret ∧ er ≠ 0 ∧ (pre.map (·.e)).all (okE env) = false))
    (OwnFrom.and (OwnFrom.and (OwnFrom.and (Own.from (boxed_own _ _ _) _) (Own.from (boxed_own _ _ _) _)) (Own.from (boxed_own _ _ _) _)) (OwnFrom.and (ownFrom_below (Nat.le_refl _) hszw) (ownFrom_pure _ _)))
    (fun c s X Y row hs hg hrw => by
      obtain ⟨a, er, ⟨⟨h1, h2⟩, h3⟩, h4⟩ := hs
      exact ⟨a, er, ⟨⟨boxed_own _ _ (fun (_ : Unit) => Value.int .i64 a) () X Y row h1 hg (fun r e => (hrw r e).2), boxed_own _ _ (fun (_ : Unit) => Value.int .i64 er) () X Y row h2 hg (fun r e => (hrw r e).2)⟩, ownFrom_below (β := Unit) (Nat.le_refl _) hszw () X Y row h3 hg hrw⟩, h4⟩)
    ⟨⟨⟨bM, bA⟩, bE⟩, hB0, rfl⟩
    (fun x a' W => ∃ Bx, w.heap.size + 1 + 1 < Bx ∧ W.heap[Bx]? = some (.cells #[.int .i64 x.e.k, .string x.e.nm, .int .i64 x.e.n, .int .i64 x.e.d, .slice x.ad x.e.args.len x.cap, .int .i64 x.e.a] 39 (0, 0)) ∧
      a' = { tmps := #[.map (some mb), .slice af flows.length cf, .pointer (some ⟨w.heap.size, 0, none⟩), undef, .pointer (some ⟨w.heap.size + 1, 0, none⟩), .pointer (some ⟨w.heap.size + 1 + 1, 0, none⟩), .pointer (some ⟨Bx, 0, none⟩), undef, undef, .slice af flows.length cf,
        .func (.func 50) #[] #[.pointer (some ⟨w.heap.size + 1 + 1 + 1, 0, none⟩)], .agg #[.int .i64 x.e.k, .string x.e.nm, .int .i64 x.e.n, .int .i64 x.e.d, .slice x.ad x.e.args.len x.cap, .int .i64 x.e.a], undef, undef, undef, undef, undef, undef, undef, undef, undef, undef, undef, undef, undef], defers := [] })
    (fun x a' _ X Y row hs hg hrw => by
      obtain ⟨Bx, h1, h2, h3⟩ := hs
      refine ⟨Bx, h1, (hg.block Bx (Array.getElem?_eq_some_iff.1 h2).1 (fun e => ?_)).trans h2, h3⟩
      obtain ⟨_, o, ho, hc⟩ := hrw Bx e.symm
      rw [h2] at ho; cases ho; cases hc)
    ?assign ?body ?done ?stop
  case assign =>
    rintro l pre x W K ⟨⟨⟨bM1, bA1⟩, bE1⟩, hB1, hall⟩ hK
    gi_wp2
    exact hK _ _ ((KeepsOthers.alloc _ _).from _) ((KC.refl _ W).alloc hB1.size _) ⟨⟨⟨bM1.alloc _, bA1.alloc _⟩, bE1.alloc _⟩, hB1.alloc hB1.size _, hall⟩ ⟨W.heap.size, bE1.lt, heap_new W _, rfl⟩
  case body =>
    rintro l pre ⟨⟨k1, nm1, n1, d1, args1, a1⟩, ad1, cap1, hok⟩ a' W hl ⟨r, hr⟩ ⟨⟨⟨bM1, bA1⟩, bE1⟩, hB1, hall⟩ ⟨Bx, hBx, hxb, rfl⟩ hlt
    simp only at hxb
    have cM := bM1.cell
    obtain ⟨⟨x0, x1, x2, x3, x4, x5⟩, xf⟩ := cells6' hxb
    have hsW := hB1.size
    by_cases hk2 : k1 = 2
    · subst hk2
      have HC := Lib.hid (askCall_any (w := W) ⟨2, nm1, n1, d1, args1, a1⟩ ad1 cap1 mb L env (hok.below hB1) (HM.out.below hB1) hE)
      simp only at HC
      cases hck : ckA env args1 with
      | true =>
        rw [hck] at HC
        have hall2 : ((pre ++ [(⟨⟨2, nm1, n1, d1, args1, a1⟩, ad1, cap1, hok⟩ : VX w)]).map (·.e)).all (okE env) = true := by
          rw [List.map_append, List.all_append, hall]; simp [okE, hck]
        gi_wp2_with (refine ⟨trivial, ?_⟩; gi_at_call 46; refine (CallsIn.inRound l (callsIn_wide.2 HC.out)).mono ?_; rintro e w2 ⟨he, hb2⟩; obtain rfl : e = .returned (.tuple #[.int .i64 0, .int .i64 0]) := he)
        exact ⟨⟨hb2.size, fun k o _ hk _ => (hb2.block k (lt_of_block hk)).trans hk⟩, (KC.refl _ W).of_below hb2 hsW, ⟨⟨⟨(hb2.block _ bM1.lt).trans bM1, (hb2.block _ bA1.lt).trans bA1⟩, (hb2.block _ bE1.lt).trans bE1⟩, hB1.trans (hb2.mono hsW), hall2⟩⟩
      | false =>
        rw [hck] at HC
        have hall2 : ((pre ++ [(⟨⟨2, nm1, n1, d1, args1, a1⟩, ad1, cap1, hok⟩ : VX w)]).map (·.e)).all (okE env) = false := by
          rw [List.map_append, List.all_append]; simp [okE, hck]
        gi_wp2_with (refine ⟨trivial, ?_⟩; gi_at_call 46; refine (CallsIn.inRound l (callsIn_wide.2 HC.out)).mono ?_; rintro e w2 ⟨⟨ab, eb, heb, rfl⟩, hb2⟩; have heb' : (eb == 0) = false := beq_eq_false_iff_ne.2 heb; have bA2 : Boxed w2 (w.heap.size + 1) 3 (.int .i64 0) := (hb2.block _ bA1.lt).trans bA1; have bE2 : Boxed w2 (w.heap.size + 1 + 1) 30 (.int .i64 0) := (hb2.block _ bE1.lt).trans bE1; have cA := bA2.cell; have fA := bA2.frozen; have cE := bE2.cell; have fE := bE2.frozen)
        exact ⟨(show KeepsFrom W0.heap.size W w2 from ⟨hb2.size, fun k o _ hk _ => (hb2.block k (lt_of_block hk)).trans hk⟩).trans (((KeepsOthers.setCell _ _ _).trans (KeepsOthers.setCell _ _ _)).from _), ab, eb, ⟨⟨(bA2.set _).other (by omega) _, (bE2.other (by omega) _).set _⟩, ((hB1.trans (hb2.mono hsW)).setCell (p := ⟨w.heap.size + 1, 0, none⟩) (by simp) _).setCell (p := ⟨w.heap.size + 1 + 1, 0, none⟩) (by simp; omega) _⟩, rfl, heb, hall2⟩
    · have hk2' : (k1 == 2) = false := beq_eq_false_iff_ne.2 hk2
      have hall2 : ((pre ++ [(⟨⟨k1, nm1, n1, d1, args1, a1⟩, ad1, cap1, hok⟩ : VX w)]).map (·.e)).all (okE env) = true := by
        rw [List.map_append, List.all_append, hall]; simp [okE, hk2]
      gi_wp2
      exact ⟨KeepsFrom.refl _ _, KC.refl _ _, ⟨⟨⟨bM1, bA1⟩, bE1⟩, hB1, hall2⟩⟩
  case done =>
    rintro D zs W hD hzs ⟨⟨⟨bM1, bA1⟩, bE1⟩, hB1, hall⟩ hK
    have h1 : callsOK env flows = true := by unfold callsOK; rw [← hzs]; exact hall
    have cA := bA1.cell
    have fA := bA1.frozen
    have cE := bE1.cell
    have fE := bE1.frozen
    gi_wp2
    have hK2 : ((W.setCell ⟨w.heap.size + 1, 0, none⟩ (.int .i64 0)).setCell ⟨w.heap.size + 1 + 1, 0, none⟩ (.int .i64 0)).heap[D]? = some (.deferred (some [])) := ((KeepsOthers.setCell _ _ _).trans (KeepsOthers.setCell _ _ _)).same D _ hK rfl
    refine ⟨by simp, .inl ⟨_, _, rfl, run_takeDeferred hK2, ?_⟩⟩
    have bA3 := (((bA1.set (.int .i64 0)).other (show w.heap.size + 1 ≠ w.heap.size + 1 + 1 by omega) (.int .i64 0)).kept (grownBy_putObj' _ D (.deferred none)) (by intro e; injection e with e; omega)).cell
    have bE3 := (((bE1.other (show w.heap.size + 1 + 1 ≠ w.heap.size + 1 by omega) (.int .i64 0)).set (.int .i64 0)).kept (grownBy_putObj' _ D (.deferred none)) (by intro e; injection e with e; omega)).cell
    refine ⟨.tuple #[.int .i64 0, .int .i64 0], ?_, ?_, ?_⟩
    · simp only [results, Try.results31]; go_simp
    · unfold AskAns; rw [if_pos h1]; rfl
    · exact ((hB1.setCell (p := ⟨w.heap.size + 1, 0, none⟩) (by simp) _).setCell (p := ⟨w.heap.size + 1 + 1, 0, none⟩) (by simp; omega) _).trans (KC.putObj (n₀ := w.heap.size) _ D _ _ (by omega) hK2 rfl).below
  case stop =>
    rintro D c pre W hD hpre ⟨a, er, ⟨⟨bA1, bE1⟩, hB1⟩, rfl, her, hall⟩ hK
    have h1 : callsOK env flows = false := by
      unfold callsOK
      obtain ⟨t, ht⟩ := hpre
      rw [← ht, List.all_append, hall]; rfl
    have cA := bA1.cell
    have fA := bA1.frozen
    have cE := bE1.cell
    have fE := bE1.frozen
    gi_wp2
    refine ⟨by simp, .inl ⟨_, _, rfl, run_takeDeferred hK, ?_⟩⟩
    have bA3 := (bA1.kept (grownBy_putObj' _ D (.deferred none)) (by intro e; injection e with e; omega)).cell
    have bE3 := (bE1.kept (grownBy_putObj' _ D (.deferred none)) (by intro e; injection e with e; omega)).cell
    refine ⟨.tuple #[.int .i64 a, .int .i64 er], ?_, ?_, ?_⟩
    · simp only [results, Try.results31]; go_simp
    · unfold AskAns; rw [if_neg (by rw [h1]; decide)]; exact ⟨a, er, her, rfl⟩
    · exact hB1.trans (KC.putObj (n₀ := w.heap.size) _ D _ _ (by omega) hK rfl).below

end Go.Proofs.Ytjcmjlkihfcdcaa.syn
