/-
  CheckFinds: the law's walk.
-/
import Derived.Deep.RegionLaw
import Derived.Test.YtjcmjlkihfcdcaaFin2
namespace Go.Proofs.Ytjcmjlkihfcdcaa.fin
open Go.RowKit syn rclk
set_option linter.unusedVariables false
set_option linter.unusedSimpArgs false

theorem infoClk : (Try.prog.info? 43).map (fun i => (i.zero, i.size, i.bytes)) = some (some (.agg #[.int .i64 0, .int .i64 0]), 2, 16) := by kernel_rfl
theorem fl_at {w : World} {flows : List FL} {af : Option Addr} (h : Row FlC 8 w flows af) {i : Nat} (hi : i < flows.length) : ∃ bb oo ad cap, af = some ⟨bb, oo, none⟩ ∧ bb < w.heap.size ∧
    w.cell? ⟨bb, oo + i * 8 + 1, none⟩ = some (.int .i64 flows[i].e.k) ∧ w.cell? ⟨bb, oo + i * 8 + 2, none⟩ = some (.string flows[i].e.nm) ∧ w.cell? ⟨bb, oo + i * 8 + 3, none⟩ = some (.int .i64 flows[i].e.n) ∧ w.cell? ⟨bb, oo + i * 8 + 4, none⟩ = some (.int .i64 flows[i].e.d) ∧
    w.cell? ⟨bb, oo + i * 8 + 5, none⟩ = some (.slice ad flows[i].e.args.len cap) ∧ w.cell? ⟨bb, oo + i * 8 + 6, none⟩ = some (.int .i64 flows[i].e.a) ∧ AE w flows[i].e ad cap := by
  obtain ⟨bb, oo, rfl, hb, _, ⟨ad, cap, y1, y2, y3, y4, y5, y6, hae⟩, _, _⟩ := h.at hi
  exact ⟨bb, oo, ad, cap, rfl, hb, y1, y2, y3, y4, y5, y6, hae⟩

theorem own0' {w : World} {base g : Nat} (h : w.heap[g]? = some (.cells #[] 43 (0, 0))) (hb : base ≤ g) : w.ownsRow base 43 2 (.slice (some ⟨g, 0, none⟩) 0 0) 0 [] :=
  ⟨rfl, .inr ⟨g, 0, #[], rfl, hb, h, Nat.le_refl _, by unfold maxLen; omega, rfl, rfl⟩⟩
theorem clk_bad {w : World} {p : PG} (hno : ∀ E, findP (env0 p.ins) p.flows = some E → callsOK E p.flows = false) {x : Ending} {w' : World} (h : syn.ClkAns w p x w') : (∃ a e, e ≠ 0 ∧ x = .returned (.tuple #[.slice none 0 0, .int .i64 a, .int .i64 e])) ∧ Below w.heap.size w w' := by
  refine ⟨?_, h.2⟩
  have h := h.1
  cases hf : findP (env0 p.ins) p.flows with
  | none => rw [hf] at h; exact h
  | some E =>
    rw [hf] at h
    simp only [hno E hf, if_false, Bool.false_eq_true] at h
    exact h
theorem clk_good {w : World} {p : PG} {C : List (Int × Int)} (hy : ∃ E, findP (env0 p.ins) p.flows = some E ∧ callsOK E p.flows = true ∧ p.flows.map (fun f => clkAt E f.nm) = C) {x : Ending} {w' : World} (h : syn.ClkAns w p x w') : (∃ v, x = .returned (.tuple #[v, .int .i64 0, .int .i64 0]) ∧ ClkRow w' v C) ∧ Below w.heap.size w w' := by
  refine ⟨?_, h.2⟩
  have h := h.1
  obtain ⟨E, h1, h2, rfl⟩ := hy
  rw [h1] at h
  simp only [h2, if_true] at h
  exact h
theorem goodB_no {p : PG} (hN : NamesF p) (hA : AllF p) {C : List (Int × Int)} (h : GoodB p C false) : ∀ E, findP (env0 p.ins) p.flows = some E → callsOK E p.flows = false := by
  obtain ⟨C0, c, rfl, hg, hl, hr⟩ := h
  exact good_none hN hA hg hl hr
def L2 (W1 : World) (p : PG) (c : Nat) (v : Value) (wr : World) : Prop := ∃ k : Nat, v = .int .i64 (k : Int) ∧ c ≤ k ∧ k ≤ p.flows.length ∧ AheadTo p 0 k ∧ Below W1.heap.size W1 wr
def L12 (W6 : World) (n : Nat) (v : Value) (wr : World) : Prop := ∃ k : Nat, v = .int .i64 (k : Int) ∧ k ≤ n ∧ Below W6.heap.size W6 wr

set_option maxRecDepth 100000 in
set_option maxHeartbeats 8000000 in
theorem walk {w : World} (nodes : List ND) (ins : List IN) (flows : List FL) (outs : List OU) (an ai af ao : Option Addr) (cn ci cf co : Nat) (hp : AP w ⟨nodes, ins, flows, outs⟩ an ai af ao cn ci cf co) (hsm : SmallP ⟨nodes, ins, flows, outs⟩) :
    Calls Try.prog 4 #[pv ⟨nodes, ins, flows, outs⟩ an ai af ao cn ci cf co] w fun x w' => x = .returned (.bool true) ∧ Below w.heap.size w w' := by
  have HP := Lib.hid hp
  have HAW := Lib.hid (fun w => awake_any w)
  have HRT := Lib.hid (fun (w' : World) (hb : Below w.heap.size w w') => right_pg (w := w') ⟨nodes, ins, flows, outs⟩ an ai af ao cn ci cf co (hp.below hb) hsm)
  have HNM := Lib.hid (fun (w' : World) (hb : Below w.heap.size w w') (hf : RightF ⟨nodes, ins, flows, outs⟩) => names_ins (w := w') nodes ins flows outs an ai af ao cn ci cf co (hp.below hb) (by have := hf.lens; simp only at this; omega) (by have := hf.lens; simp only at this; omega) (by have := hf.lens; simp only at this; omega) (by have := hf.lens; simp only at this; omega) (fun x hx => by have := (hf.nodes x hx).2; omega))
  have hcaps := hp.caps
  simp only at hcaps
  have tok := trivial
  clear hp hsm
  unfold pv at *
  simp only at HRT HNM ⊢
  go_enter Try.func4, Try.ntmps4
  go_wp2_with (first
    | (have _t := tok; go_at_call 5; refine (HAW.out _).mono ?_; rintro x w1 ⟨rfl, hw1⟩; have HP1 := Lib.hid ((hw1.block w.heap.size (by first | omega | (simp; done) | (simp; omega))).trans (heap_new w _)); obtain ⟨⟨a1_0, a1_1, a1_2, a1_3⟩, af1⟩ := cells4 HP1.out; have l1 : w.heap.size < w1.heap.size := sz_of hw1 (by first | omega | (simp; done) | (simp; omega)); clear tok)
    | (go_at_call 5; refine (HAW.out _).mono ?_; rintro x w9 ⟨rfl, hw9⟩)
    | (go_at_call 6; refine (HRT.out _ (by repeat (first | (with_reducible exact Below.refl _ _) | ((with_reducible refine below_setAt ?_ ?_ _); (rotate_left; focus (first | omega | (simp; done) | (simp; omega)))) | ((with_reducible refine Below.alloc ?_ ?_ _); (rotate_left; focus (first | omega | (simp; done) | (simp; omega)))) | (with_reducible refine below_drewN ?_ _) | (with_reducible refine Below.drew ?_) | ((with_reducible refine Below.trans ?_ (Below.mono hw1 ?_)); (rotate_left; focus (first | omega | (simp; done) | (simp; omega))))))).mono ?_; rintro x w2 ⟨⟨b1, rfl, hb1⟩, hw2⟩; have HP2 := Lib.hid ((hw2.block w.heap.size l1).trans HP1.out); obtain ⟨⟨a2_0, a2_1, a2_2, a2_3⟩, af2⟩ := cells4 HP2.out; have l2 : w.heap.size < w2.heap.size := sz_of hw2 l1; have HR1 := Lib.hid hb1; clear hb1; cases b1)
    | (go_at_call 9; refine (HNM.out _ (by repeat (first | (with_reducible exact Below.refl _ _) | ((with_reducible refine below_setAt ?_ ?_ _); (rotate_left; focus (first | omega | (simp; done) | (simp; omega)))) | ((with_reducible refine Below.alloc ?_ ?_ _); (rotate_left; focus (first | omega | (simp; done) | (simp; omega)))) | (with_reducible refine below_drewN ?_ _) | (with_reducible refine Below.drew ?_) | ((with_reducible refine Below.trans ?_ (Below.mono hw2 ?_)); (rotate_left; focus (first | omega | (simp; done) | (simp; omega)))) | ((with_reducible refine Below.trans ?_ (Below.mono hw1 ?_)); (rotate_left; focus (first | omega | (simp; done) | (simp; omega)))))) (HR1.out (by trivial))).mono ?_; rintro x w3 ⟨⟨b2, rfl, hb2⟩, hw3⟩; have HP3 := Lib.hid ((hw3.block w.heap.size l2).trans HP2.out); have l3 : w.heap.size < w3.heap.size := sz_of hw3 l2; have HR2 := Lib.hid hb2; clear hb2; cases b2))
  all_goals (try (go_ret; exact ⟨rfl, (by repeat (first | (with_reducible exact Below.refl _ _) | ((with_reducible refine below_setAt ?_ ?_ _); (rotate_left; focus (first | omega | (simp; done) | (simp; omega)))) | ((with_reducible refine Below.alloc ?_ ?_ _); (rotate_left; focus (first | omega | (simp; done) | (simp; omega)))) | (with_reducible refine below_drewN ?_ _) | (with_reducible refine Below.drew ?_) | ((with_reducible refine Below.trans ?_ (Below.mono hw9 ?_)); (rotate_left; focus (first | omega | (simp; done) | (simp; omega)))) | ((with_reducible refine Below.trans ?_ (Below.mono hw3 ?_)); (rotate_left; focus (first | omega | (simp; done) | (simp; omega)))) | ((with_reducible refine Below.trans ?_ (Below.mono hw2 ?_)); (rotate_left; focus (first | omega | (simp; done) | (simp; omega)))) | ((with_reducible refine Below.trans ?_ (Below.mono hw1 ?_)); (rotate_left; focus (first | omega | (simp; done) | (simp; omega))))))⟩))
  all_goals (try (go_ret; exact ⟨rfl, (by repeat (first | (with_reducible exact Below.refl _ _) | ((with_reducible refine below_setAt ?_ ?_ _); (rotate_left; focus (first | omega | (simp; done) | (simp; omega)))) | ((with_reducible refine Below.alloc ?_ ?_ _); (rotate_left; focus (first | omega | (simp; done) | (simp; omega)))) | (with_reducible refine below_drewN ?_ _) | (with_reducible refine Below.drew ?_) | ((with_reducible refine Below.trans ?_ (Below.mono hw9 ?_)); (rotate_left; focus (first | omega | (simp; done) | (simp; omega)))) | ((with_reducible refine Below.trans ?_ (Below.mono hw2 ?_)); (rotate_left; focus (first | omega | (simp; done) | (simp; omega)))) | ((with_reducible refine Below.trans ?_ (Below.mono hw1 ?_)); (rotate_left; focus (first | omega | (simp; done) | (simp; omega))))))⟩))
  have HRF := Lib.hid (HR1.out (by trivial) : RightF ⟨nodes, ins, flows, outs⟩)
  have HNF := Lib.hid (HR2.out (by trivial) : NamesF ⟨nodes, ins, flows, outs⟩)
  have HB3 := Lib.hid (show Below w.heap.size w w3 from (by repeat (first | (with_reducible exact Below.refl _ _) | ((with_reducible refine below_setAt ?_ ?_ _); (rotate_left; focus (first | omega | (simp; done) | (simp; omega)))) | ((with_reducible refine Below.alloc ?_ ?_ _); (rotate_left; focus (first | omega | (simp; done) | (simp; omega)))) | (with_reducible refine below_drewN ?_ _) | (with_reducible refine Below.drew ?_) | ((with_reducible refine Below.trans ?_ (Below.mono hw3 ?_)); (rotate_left; focus (first | omega | (simp; done) | (simp; omega)))) | ((with_reducible refine Below.trans ?_ (Below.mono hw2 ?_)); (rotate_left; focus (first | omega | (simp; done) | (simp; omega)))) | ((with_reducible refine Below.trans ?_ (Below.mono hw1 ?_)); (rotate_left; focus (first | omega | (simp; done) | (simp; omega)))))))
  have hlens := HRF.out.lens
  simp only at hlens
  have hl2 : ins.length ≤ 1000 := by omega
  have hl3 : flows.length ≤ 1000 := by omega
  clear HP1 af1 a1_0 a1_1 a1_2 a1_3 l1 hw1 HP2 af2 a2_0 a2_1 a2_2 a2_3 l2 hw2 hw3 HR1 HR2 HAW HRT HNM
  go_wp2_with fail
  go_loopw [3, 4, 5] (fun v3 v4 v5 wr => Hid (LRel w3 ⟨nodes, ins, flows, outs⟩ v3 v4 v5 wr)) (fun _ _ i _ => flows.length - (intOf i).toNat)
  case atStart => exact ⟨[], none, 0, true, rfl, rfl, rfl, fun k hk => by simp at hk, syn.Good.nil _, fun j _ _ h => absurd h (by simp), Below.refl _ _⟩
  case round =>
    obtain ⟨C, al, cl, g, rfl, rfl, rfl, hcl, hg, hah, hbel⟩ := hrel.out
    clear hrel
    have hlow := HB3.out.trans (hbel.mono HB3.out.size)
    have HBEL := Lib.hid hlow
    have HBE3 := Lib.hid hbel
    have hpb := (hbel.block _ l3).trans HP3.out
    obtain ⟨⟨x0, x1, x2, x3⟩, xf⟩ := cells4 hpb
    have HPB := Lib.hid hpb
    have hplt := lt_of_block hpb
    have HCL := Lib.hid hcl
    have HG := Lib.hid hg
    have HAH := Lib.hid hah
    have hCl := hg.len
    simp only at hCl
    clear hpb hcl hg hah hbel
    go_upto_region 6 with fail
    go_cut [33] (fun s33 W => Hid (s33 = .bool (decide (C.length < flows.length) && g) ∧ W = wr))
    case first =>
      by_cases hlt : C.length < flows.length
      · have hlt' : (C.length : Int) < (flows.length : Int) := by omega
        cases g
        · go_wp2_with fail
          go_meet
          exact ⟨by simp [hlt], rfl⟩
        · go_wp2_with fail
          go_meet
          exact ⟨by simp [hlt], rfl⟩
      · have hlt' : (flows.length : Int) ≤ (C.length : Int) := by omega
        go_wp2_with fail
        go_meet
        exact ⟨by simp [hlt], rfl⟩
    case rest =>
      obtain ⟨rfl, hww⟩ := hcut.out
      clear hcut
      subst hww
      obtain ⟨W1, rfl⟩ : ∃ W1 : World, W1 = wc := ⟨_, rfl⟩
      cases hgo : (decide (C.length < flows.length) && g) with
      | true =>
        rw [Bool.and_eq_true] at hgo
        have hlt : C.length < flows.length := of_decide_eq_true hgo.1
        have hge := hgo.2
        subst hge
        clear hgo
        have hlt' : (C.length : Int) < (flows.length : Int) := by omega
        obtain ⟨bb, oo, ad, cap, rfl, hbb0, y1, y2, y3, y4, y5, y6, hae⟩ := fl_at (HP.out.flows.below flSta hlow) hlt
        have hok := (HRF.out.flows _ (List.getElem_mem hlt)).2
        have hnn := (HNF.out.flows C.length hlt).2
        simp only at hok hnn
        have HNX := Lib.hid (fun (pp ff : Int) (b : Bool) => GoodB.next (pp := pp) (ff := ff) (b := b) HG.out hlt)
        have HAT := Lib.hid (show ∀ h : ahE ⟨nodes, ins, flows, outs⟩ ((ins.length : Int) + (C.length : Int)) flows[C.length].e = true, AheadTo ⟨nodes, ins, flows, outs⟩ 0 (C.length + 1) from fun h => AheadTo.next HAH.out (fun _ => h))
        simp only at HNX
        obtain ⟨e, he⟩ : ∃ e, flows[C.length].e = e := ⟨_, rfl⟩
        rw [he] at y1 y2 y3 y4 y5 y6 hae hok hnn HNX HAT
        clear he
        have hcl50 : C.length ≤ 1000 := by omega
        have HA1 := Lib.hid (fun (w' : World) (hb : Below W1.heap.size W1 w') => ahead_any ⟨nodes, ins, flows, outs⟩ an ai (some ⟨bb, oo, none⟩) ao cn ci cf co ((ins.length : Int) + (C.length : Int)) hl2 hl3 e w' ad cap ((HP.out.below hlow).below hb) (hae.below hb))
        have HC1 := Lib.hid (fun (w' : World) (hb : Below W1.heap.size W1 w') (ha : ahE ⟨nodes, ins, flows, outs⟩ ((ins.length : Int) + (C.length : Int)) e = true) => clock_ref nodes ins flows outs an ai (some ⟨bb, oo, none⟩) ao cn ci cf co hl2 hl3 C hcl50 (e.args.sz + 1) e (Nat.lt_succ_self _) w' ad cap al cl ((HP.out.below hlow).below hb) (hae.below hb) (HCL.out.below hb (Nat.le_refl _)) hok hnn.1 hnn.2 ha)
        unfold pv at HA1 HC1
        simp only at HA1 HC1
        obtain ⟨ahb, hahb⟩ : ∃ ahb, ahE ⟨nodes, ins, flows, outs⟩ ((ins.length : Int) + (C.length : Int)) e = ahb := ⟨_, rfl⟩
        rw [hahb] at HA1 HC1 HAT
        generalize rclkE (envC ⟨nodes, ins, flows, outs⟩ C) e = r9 at HC1 HNX
        clear hahb hae hok hnn hlow
        go_upto_region 8 with fail
        go_cut [49] (fun s49 W => Hid (s49 = .bool (!ahb) ∧ Below W1.heap.size W1 W))
        case first =>
          have hwr : IntKind.i64.wrap ((ins.length : Int) + (C.length : Int)) = (ins.length : Int) + (C.length : Int) := IntWalk.i64_in _ (by omega)
          go_region_with (go_at_call 10; go_loud (refine (HA1.out _ (by repeat (first | (with_reducible exact Below.refl _ _) | ((with_reducible refine below_setAt ?_ ?_ _); (rotate_left; focus (first | omega | (simp; done) | (simp; omega)))) | ((with_reducible refine Below.alloc ?_ ?_ _); (rotate_left; focus (first | omega | (simp; done) | (simp; omega)))) | (with_reducible refine below_drewN ?_ _) | (with_reducible refine Below.drew ?_)))).mono ?_; rintro x w4 ⟨rfl, hb4⟩))
          all_goals (go_wp2_with fail; go_meet; exact ⟨rfl, (by repeat (first | (with_reducible exact Below.refl _ _) | ((with_reducible refine below_setAt ?_ ?_ _); (rotate_left; focus (first | omega | (simp; done) | (simp; omega)))) | ((with_reducible refine Below.alloc ?_ ?_ _); (rotate_left; focus (first | omega | (simp; done) | (simp; omega)))) | (with_reducible refine below_drewN ?_ _) | (with_reducible refine Below.drew ?_) | ((with_reducible refine Below.trans ?_ (Below.mono hb4 ?_)); (rotate_left; focus (first | omega | (simp; done) | (simp; omega))))))⟩)
        case rest =>
          obtain ⟨rfl, hb4⟩ := hcut.out
          clear hcut HA1
          obtain ⟨W2, rfl⟩ : ∃ W2 : World, W2 = wc := ⟨_, rfl⟩
          have HB4_ := Lib.hid hb4
          cases ahb with
          | false =>
            go_wp2_with fail
            go_ret
            exact ⟨rfl, HBEL.out.trans (HB4_.out.mono HBEL.out.size)⟩
          | true =>
            have hc4 : ∀ o, W2.cell? ⟨bb, o, none⟩ = W1.cell? ⟨bb, o, none⟩ := fun o => hb4.cell (p := ⟨bb, o, none⟩) hbb0
            have hbb4 : bb < W2.heap.size := Nat.lt_of_lt_of_le hbb0 hb4.size
            rw [← hc4] at y1 y2 y3 y4 y5 y6
            have hpb4 := (hb4.block _ hplt).trans HPB.out
            have hplt4 := lt_of_block hpb4
            clear x0 x1 x2 x3 xf hc4
            obtain ⟨⟨x0, x1, x2, x3⟩, xf⟩ := cells4 hpb4
            have HC1' := Lib.hid (fun (w' : World) (hb : Below W2.heap.size W2 w') => HC1.out w' (HB4_.out.trans (hb.mono HB4_.out.size)) rfl)
            clear HC1 hb4 hpb4
            have HC1 := HC1'
            clear HC1'
            go_upto_region 10 with fail
            go_cut [6, 7] (fun s6 s7 W => Hid (K67 W2 r9 s6 s7 W))
            case first =>
              go_region_with (go_at_call 11; go_loud (refine (HC1.out _ (by repeat (first | (with_reducible exact Below.refl _ _) | ((with_reducible refine below_setAt ?_ ?_ _); (rotate_left; focus (first | omega | (simp; done) | (simp; omega)))) | ((with_reducible refine Below.alloc ?_ ?_ _); (rotate_left; focus (first | omega | (simp; done) | (simp; omega)))) | (with_reducible refine below_drewN ?_ _) | (with_reducible refine Below.drew ?_)))).mono ?_; rintro x w5 ⟨⟨pp, ff, bq, rfl, hr9⟩, hb5⟩; have s5 : W2.heap.size ≤ w5.heap.size := (by have := hb5.size; simp at this; omega); try (have q0 : w5.cell? ⟨W2.heap.size, 0, none⟩ = some (.int .i64 0) := (hb5.cell (p := ⟨W2.heap.size, 0, none⟩) (by simp)).trans (by go_simp); have q1 : w5.cell? ⟨W2.heap.size, 1, none⟩ = some (.int .i64 0) := (hb5.cell (p := ⟨W2.heap.size, 1, none⟩) (by simp)).trans (by go_simp); have q2 : w5.frozen? ⟨W2.heap.size, 0, none⟩ = false := (hb5.frozen (p := ⟨W2.heap.size, 0, none⟩) (by simp)).trans (by go_simp); have q3 : w5.frozen? ⟨W2.heap.size, 1, none⟩ = false := (hb5.frozen (p := ⟨W2.heap.size, 1, none⟩) (by simp)).trans (by go_simp); have s6 : W2.heap.size < w5.heap.size := sz_of hb5 (by first | omega | (simp; done) | (simp; omega)))))
              all_goals
                go_wp2_with fail
                go_meet
                first
                  | exact ⟨w5.heap.size, pp, ff, bq, rfl, rfl, hr9, (by repeat (first | (with_reducible exact Below.refl _ _) | ((with_reducible refine below_setAt ?_ ?_ _); (rotate_left; focus (first | omega | (simp; done) | (simp; omega)))) | ((with_reducible refine Below.alloc ?_ ?_ _); (rotate_left; focus (first | omega | (simp; done) | (simp; omega)))) | (with_reducible refine below_drewN ?_ _) | (with_reducible refine Below.drew ?_) | ((with_reducible refine Below.trans ?_ (Below.mono hb5 ?_)); (rotate_left; focus (first | omega | (simp; done) | (simp; omega)))))), by omega, by simp, by go_simp, by go_simp⟩
                  | exact ⟨W2.heap.size, pp, ff, bq, rfl, rfl, hr9, (by repeat (first | (with_reducible exact Below.refl _ _) | ((with_reducible refine below_setAt ?_ ?_ _); (rotate_left; focus (first | omega | (simp; done) | (simp; omega)))) | ((with_reducible refine Below.alloc ?_ ?_ _); (rotate_left; focus (first | omega | (simp; done) | (simp; omega)))) | (with_reducible refine below_drewN ?_ _) | (with_reducible refine Below.drew ?_) | ((with_reducible refine Below.trans ?_ (Below.mono hb5 ?_)); (rotate_left; focus (first | omega | (simp; done) | (simp; omega)))))), by omega, by simp; omega, by go_simp, by go_simp⟩
            case rest =>
              obtain ⟨b6, pp, ff, bq, rfl, rfl, hr9, hb5, hb6, hb6l, c0, c1⟩ := hcut.out
              clear hcut HC1 x0 x1 x2 x3 xf y1 y2 y3 y4 y5 y6
              obtain ⟨W3, rfl⟩ : ∃ W3 : World, W3 = wc := ⟨_, rfl⟩
              have HC6 := Lib.hid (And.intro c0 c1)
              have HB5 := Lib.hid hb5
              have HC3 := Lib.hid (show ClkA W3 al C from HCL.out.below (HB4_.out.trans (hb5.mono HB4_.out.size)) (Nat.le_refl _))
              have HGN := Lib.hid (HNX.out pp ff bq hr9)
              clear hb5 hr9 HNX
              obtain ⟨i0, hi0, hi1, hi2, hi3⟩ := info_parts infoClk
              have HI := Lib.hid (And.intro hi0 (And.intro hi1 (And.intro hi2 hi3)))
              clear hi0 hi1 hi2 hi3
              go_upto_region 12 with fail
              go_region_law (first | (refine step_append_gen _ (by rfl) (.tmp 63) (.tmp 64) 33 (by rfl) W3.heap.size 43 i0 _ 2 16 Try.underlying33 HI.out.1 HI.out.2.1 HI.out.2.2.1 HI.out.2.2.2 rfl (by omega) _ 0 [] (by rfl) (own0' (by first | exact heap_new _ _ | exact (Below.heap_alloc _ _ _ (by first | omega | (simp; done) | (simp; omega))).trans (heap_new _ _) | (have h := heap_new (W3.alloc (.cells #[.int .i64 pp, .int .i64 ff] 43)) (.cells #[] 43); simp only [World.size_alloc] at h; exact h)) (by first | omega | (simp; done) | (simp; omega))) al C.length cl (clV C) (by rfl) (clV_len C) (clV_cells (HC3.out.below (by repeat (first | (with_reducible exact Below.refl _ _) | ((with_reducible refine below_setAt ?_ ?_ _); (rotate_left; focus (first | omega | (simp; done) | (simp; omega)))) | ((with_reducible refine Below.alloc ?_ ?_ _); (rotate_left; focus (first | omega | (simp; done) | (simp; omega)))) | (with_reducible refine below_drewN ?_ _) | (with_reducible refine Below.drew ?_))) (Nat.le_refl _))) (clV_one C) (by unfold maxLen; omega) (by omega) (by first | omega | (simp; done) | (simp; omega)) ?_; intro v1 w4 hown4 hg4 hl4; simp only [Nat.zero_add, List.nil_append] at hown4; have HB4 := Lib.hid (show Below W3.heap.size W3 w4 from Below.grown (show Below W3.heap.size W3 _ from (by repeat (first | (with_reducible exact Below.refl _ _) | ((with_reducible refine below_setAt ?_ ?_ _); (rotate_left; focus (first | omega | (simp; done) | (simp; omega)))) | ((with_reducible refine Below.alloc ?_ ?_ _); (rotate_left; focus (first | omega | (simp; done) | (simp; omega)))) | (with_reducible refine below_drewN ?_ _) | (with_reducible refine Below.drew ?_)))) hg4 (by first | omega | (simp; done) | (simp; omega)) (own_slice (by first | omega | (simp; done) | (simp; omega)))); have s4 : W3.heap.size ≤ w4.heap.size := HB4.out.size; have k0 : w4.cell? ⟨b6, 0, none⟩ = some (.int .i64 pp) := (HB4.out.cell (p := ⟨b6, 0, none⟩) hb6l).trans HC6.out.1; have k1 : w4.cell? ⟨b6, 1, none⟩ = some (.int .i64 ff) := (HB4.out.cell (p := ⟨b6, 1, none⟩) hb6l).trans HC6.out.2; (try (have HN4 := Lib.hid ((hg4.block W3.heap.size (by first | omega | (simp; done) | (simp; omega)) (by intro e; simp [Value.ownBlock] at e)).trans (show _ = some (.cells #[.int .i64 pp, .int .i64 ff] 43 (0, 0)) from by first | exact heap_new _ _ | exact (Below.heap_alloc _ _ _ (by first | omega | (simp; done) | (simp; omega))).trans (heap_new _ _))))); (try (have HN5 := Lib.hid ((hg4.block (W3.heap.size + 1) (by first | omega | (simp; done) | (simp; omega)) (by intro e; simp [Value.ownBlock] at e)).trans (show _ = some (.cells #[.int .i64 pp, .int .i64 ff] 43 (0, 0)) from by have h := heap_new (W3.alloc (.cells #[] 43)) (.cells #[.int .i64 pp, .int .i64 ff] 43); simp only [World.size_alloc] at h; exact h)))); have HO4 := Lib.hid hown4; clear hown4 hg4 hl4) | (refine step_append_gen _ (by rfl) (.tmp 65) (.tmp 67) 33 (by rfl) W3.heap.size 43 i0 _ 2 16 Try.underlying33 HI.out.1 HI.out.2.1 HI.out.2.2.1 HI.out.2.2.2 rfl (by omega) v1 C.length (clV C) (by rfl) (by repeat (first | (with_reducible exact HO4.out) | (with_reducible refine World.ownsRow.alloc ?_ _) | (with_reducible refine World.ownsRow.drew ?_))) _ 1 1 [.int .i64 pp, .int .i64 ff] (by rfl) (by rfl) (fun j u hj => ⟨_, rfl, World.news_of_block (cs := #[.int .i64 pp, .int .i64 ff]) (t := 43) (fr := (0, 0)) (by first | exact HN4.out | exact HN5.out | exact heap_new _ _) j u hj⟩) (by simp [Value.oneCell']) (by unfold maxLen; omega) (by omega) (by first | omega | (simp; done) | (simp; omega)) ?_; intro v2 w7 hown7 hg7 hl7; have HB7 := Lib.hid (show Below W3.heap.size W3 w7 from Below.grown (show Below W3.heap.size W3 _ from (by repeat (first | (with_reducible exact Below.refl _ _) | ((with_reducible refine below_setAt ?_ ?_ _); (rotate_left; focus (first | omega | (simp; done) | (simp; omega)))) | ((with_reducible refine Below.alloc ?_ ?_ _); (rotate_left; focus (first | omega | (simp; done) | (simp; omega)))) | (with_reducible refine below_drewN ?_ _) | (with_reducible refine Below.drew ?_) | ((with_reducible refine Below.trans ?_ (Below.mono HB4.out ?_)); (rotate_left; focus (first | omega | (simp; done) | (simp; omega))))))) hg7 (by first | omega | (simp; done) | (simp; omega)) (own_ge HO4.out)); rw [show clV C ++ [.int .i64 pp, .int .i64 ff] = clV (C ++ [(pp, ff)]) by rw [clV_app]; rfl] at hown7; obtain ⟨al2, cl2, rfl, hcl2⟩ := clV_owns (by simp) hown7; have HC7 := Lib.hid hcl2; clear hown7 hg7 hl7 hcl2))
              all_goals
                go_wp2_with fail
                have HBZ := Lib.hid (show Below w3.heap.size w3 w7 from HBE3.out.trans ((HB4_.out.trans ((HB5.out.trans (((by repeat (first | (with_reducible exact Below.refl _ _) | ((with_reducible refine below_setAt ?_ ?_ _); (rotate_left; focus (first | omega | (simp; done) | (simp; omega)))) | ((with_reducible refine Below.alloc ?_ ?_ _); (rotate_left; focus (first | omega | (simp; done) | (simp; omega)))) | (with_reducible refine below_drewN ?_ _) | (with_reducible refine Below.drew ?_) | ((with_reducible refine Below.trans ?_ (Below.mono HB7.out ?_)); (rotate_left; focus (first | omega | (simp; done) | (simp; omega)))))) : Below W3.heap.size W3 w7).mono HB5.out.size)).mono HB4_.out.size)).mono HBE3.out.size))
                go_roundw
                case rel => first | exact ⟨C ++ [(pp, ff)], al2, cl2, bq, by simp, rfl, by simp, HC7.out, HGN.out, by rw [List.length_append, List.length_singleton]; exact HAT.out rfl, HBZ.out⟩ | ((repeat apply Exists.intro); exact ⟨⟨C ++ [(pp, ff)], al2, cl2, bq, by simp, rfl, by simp, HC7.out, HGN.out, by rw [List.length_append, List.length_singleton]; exact HAT.out rfl, HBZ.out⟩, rfl⟩)
                case measure => simp [intOf]; omega
      | false =>
        have HGO := Lib.hid hgo
        clear hgo
        go_wp2_with fail
        go_loopw [8] (fun v wr => Hid (L2 W1 ⟨nodes, ins, flows, outs⟩ C.length v wr)) (fun i _ => flows.length - (intOf i).toNat)
        case atStart => exact ⟨C.length, rfl, Nat.le_refl _, hCl, HAH.out, Below.refl _ _⟩
        case round =>
          obtain ⟨k, rfl, hk1, hk2, hak, hbk⟩ := hrel.out
          clear hrel
          simp only at hk2
          have hlowk := HBEL.out.trans (hbk.mono HBEL.out.size)
          have hpbk := (hbk.block _ hplt).trans HPB.out
          have hpltk := lt_of_block hpbk
          clear x0 x1 x2 x3 xf
          obtain ⟨⟨x0, x1, x2, x3⟩, xf⟩ := cells4 hpbk
          have HBK := Lib.hid hbk
          have HLK := Lib.hid hlowk
          have HAK := Lib.hid hak
          have HCK := Lib.hid (show ClkA wr al C from HCL.out.below hbk (Nat.le_refl _))
          clear hbk hpbk hak
          obtain ⟨W5, rfl⟩ : ∃ W5 : World, W5 = wr := ⟨_, rfl⟩
          by_cases hlt : k < flows.length
          · have hlt' : (k : Int) < (flows.length : Int) := by omega
            obtain ⟨bb, oo, ad, cap, rfl, hbb0, y1, y2, y3, y4, y5, y6, hae⟩ := fl_at (HP.out.flows.below flSta hlowk) hlt
            have HAT := Lib.hid (show ∀ h : ahE ⟨nodes, ins, flows, outs⟩ ((ins.length : Int) + (k : Int)) flows[k].e = true, AheadTo ⟨nodes, ins, flows, outs⟩ 0 (k + 1) from fun h => AheadTo.next HAK.out (fun _ => h))
            obtain ⟨e, he⟩ : ∃ e, flows[k].e = e := ⟨_, rfl⟩
            rw [he] at y1 y2 y3 y4 y5 y6 hae HAT
            clear he
            have HA1 := Lib.hid (fun (w' : World) (hb : Below W5.heap.size W5 w') => ahead_any ⟨nodes, ins, flows, outs⟩ an ai (some ⟨bb, oo, none⟩) ao cn ci cf co ((ins.length : Int) + (k : Int)) hl2 hl3 e w' ad cap ((HP.out.below hlowk).below hb) (hae.below hb))
            unfold pv at HA1
            simp only at HA1
            obtain ⟨ahb, hahb⟩ : ∃ ahb, ahE ⟨nodes, ins, flows, outs⟩ ((ins.length : Int) + (k : Int)) e = ahb := ⟨_, rfl⟩
            rw [hahb] at HA1 HAT
            clear hahb hae hlowk
            go_upto_region 16 with fail
            go_cut [91] (fun s91 W => Hid (s91 = .bool (!ahb) ∧ Below W5.heap.size W5 W))
            case first =>
              have hwr : IntKind.i64.wrap ((ins.length : Int) + (k : Int)) = (ins.length : Int) + (k : Int) := IntWalk.i64_in _ (by omega)
              go_region_with (go_at_call 10; go_loud (refine (HA1.out _ (by repeat (first | (with_reducible exact Below.refl _ _) | ((with_reducible refine below_setAt ?_ ?_ _); (rotate_left; focus (first | omega | (simp; done) | (simp; omega)))) | ((with_reducible refine Below.alloc ?_ ?_ _); (rotate_left; focus (first | omega | (simp; done) | (simp; omega)))) | (with_reducible refine below_drewN ?_ _) | (with_reducible refine Below.drew ?_)))).mono ?_; rintro x w4 ⟨rfl, hb4⟩))
              all_goals (go_wp2_with fail; go_meet; exact ⟨rfl, (by repeat (first | (with_reducible exact Below.refl _ _) | ((with_reducible refine below_setAt ?_ ?_ _); (rotate_left; focus (first | omega | (simp; done) | (simp; omega)))) | ((with_reducible refine Below.alloc ?_ ?_ _); (rotate_left; focus (first | omega | (simp; done) | (simp; omega)))) | (with_reducible refine below_drewN ?_ _) | (with_reducible refine Below.drew ?_) | ((with_reducible refine Below.trans ?_ (Below.mono hb4 ?_)); (rotate_left; focus (first | omega | (simp; done) | (simp; omega))))))⟩)
            case rest =>
              obtain ⟨rfl, hb4⟩ := hcut.out
              clear hcut HA1
              have HB4 := Lib.hid hb4
              cases ahb with
              | false =>
                go_wp2_with fail
                go_ret
                exact ⟨rfl, HLK.out.trans (HB4.out.mono HLK.out.size)⟩
              | true =>
                go_wp2_with fail
                have HBZ := Lib.hid (show Below W1.heap.size W1 wc from HBK.out.trans (HB4.out.mono HBK.out.size))
                go_roundw
                case rel => first | exact ⟨k + 1, by go_num, by omega, by simp only; omega, HAT.out rfl, HBZ.out⟩ | ((repeat apply Exists.intro); exact ⟨⟨k + 1, by go_num, by omega, by simp only; omega, HAT.out rfl, HBZ.out⟩, rfl⟩)
                case measure => simp [intOf]; omega
          · have hke : k = flows.length := by omega
            have hlt' : decide ((k : Int) < (flows.length : Int)) = false := decide_eq_false (by omega)
            have hle' : (flows.length : Int) ≤ (k : Int) := by omega
            have HAF := Lib.hid (allF HRF.out HNF.out (show AheadTo ⟨nodes, ins, flows, outs⟩ 0 flows.length from by rw [← hke]; exact HAK.out))
            have HCA := Lib.hid (fun (w' : World) (hb : Below W5.heap.size W5 w') => clocks_any (w := w') ⟨nodes, ins, flows, outs⟩ an ai af ao cn ci cf co ((HP.out.below hlowk).below hb) (sums HRF.out) hl3 (nu_all HNF.out HAF.out) (hh_all HNF.out HAF.out))
            unfold pv at HCA
            simp only at HCA
            cases g with
            | false =>
              have HNO := Lib.hid (goodB_no HNF.out HAF.out HG.out)
              clear hlowk hke
              go_wp2_with (go_at_call 12; go_loud (refine (HCA.out _ (by repeat (first | (with_reducible exact Below.refl _ _) | ((with_reducible refine below_setAt ?_ ?_ _); (rotate_left; focus (first | omega | (simp; done) | (simp; omega)))) | ((with_reducible refine Below.alloc ?_ ?_ _); (rotate_left; focus (first | omega | (simp; done) | (simp; omega)))) | (with_reducible refine below_drewN ?_ _) | (with_reducible refine Below.drew ?_)))).mono ?_; intro x w6 hx6; obtain ⟨⟨ab, eb, heb, rfl⟩, hb6⟩ := clk_bad HNO.out hx6; have heb' : (eb != 0) = true := by simpa using heb))
              go_ret
              exact ⟨rfl, HLK.out.trans (hb6.mono HLK.out.size)⟩
            | true =>
              have hCe : C.length = flows.length := by
                have := HGO.out
                rw [Bool.and_true] at this
                have := of_decide_eq_false this
                omega
              have HYE := Lib.hid (good_all HNF.out HAF.out HG.out hCe)
              have hC40 : C.length ≤ 40 := by omega
              clear hlowk hke hCe hCl
              go_wp2_with (go_at_call 12; go_loud (refine (HCA.out _ (by repeat (first | (with_reducible exact Below.refl _ _) | ((with_reducible refine below_setAt ?_ ?_ _); (rotate_left; focus (first | omega | (simp; done) | (simp; omega)))) | ((with_reducible refine Below.alloc ?_ ?_ _); (rotate_left; focus (first | omega | (simp; done) | (simp; omega)))) | (with_reducible refine below_drewN ?_ _) | (with_reducible refine Below.drew ?_)))).mono ?_; intro x w6 hx6; obtain ⟨⟨vv, rfl, bv, rfl, hbv, hcv⟩, hb6⟩ := clk_good HYE.out hx6; have HCV := Lib.hid hcv; have HB6 := Lib.hid hb6; clear hx6 hcv hb6))
              go_loopw [12] (fun v wr => Hid (L12 w6 C.length v wr)) (fun i _ => C.length - (intOf i).toNat)
              case atStart => exact ⟨0, rfl, Nat.zero_le _, Below.refl _ _⟩
              case round =>
                obtain ⟨q, rfl, hq, hbq⟩ := hrel.out
                clear hrel
                have HBQ := Lib.hid hbq
                by_cases hql : q < C.length
                · have hql' : (q : Int) < (C.length : Int) := by omega
                  obtain ⟨g0, g1⟩ := HCV.out q hql
                  obtain ⟨ba, oa, rfl, hba, d0, d1⟩ := HCK.out q hql
                  have m0 := (hbq.cell (p := ⟨bv, q * 2, none⟩) hbv).trans g0
                  have m1 := (hbq.cell (p := ⟨bv, q * 2 + 1, none⟩) hbv).trans g1
                  have n0 := ((HB6.out.trans (hbq.mono HB6.out.size)).cell (p := ⟨ba, oa + q * 2, none⟩) hba).trans d0
                  have n1 := ((HB6.out.trans (hbq.mono HB6.out.size)).cell (p := ⟨ba, oa + q * 2 + 1, none⟩) hba).trans d1
                  rw [List.getD_eq_getElem?_getD, List.getElem?_eq_getElem hql, Option.getD_some] at n0 n1
                  clear g0 g1 d0 d1 hbq
                  generalize C[q] = cq at m0 m1 n0 n1
                  obtain ⟨cq1, cq2⟩ := cq
                  simp only at m0 m1 n0 n1
                  go_wp2_with fail
                  go_quiet (fail)
                  go_wp2_with fail
                  go_roundw
                  case rel => first | exact ⟨q + 1, by go_num, by omega, below_drewN HBQ.out _⟩ | ((repeat apply Exists.intro); exact ⟨⟨q + 1, by go_num, by omega, below_drewN HBQ.out _⟩, rfl⟩)
                  case measure => simp [intOf]; omega
                · have hqe : decide ((q : Int) < (C.length : Int)) = false := decide_eq_false (by omega)
                  have hqe' : (C.length : Int) ≤ (q : Int) := by omega
                  clear hbq
                  go_wp2_with fail
                  go_ret
                  exact ⟨rfl, HLK.out.trans ((HB6.out.trans (HBQ.out.mono HB6.out.size)).mono HLK.out.size)⟩
end Go.Proofs.Ytjcmjlkihfcdcaa.fin
