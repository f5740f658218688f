/-
  The reference's Stream of layer 7: its values are those that Back tells of.
-/
import Derived.Test.YtdlgpfbfhaifgaaStr7P
import Derived.Deep.RegionWith
namespace Go.Proofs.Ytdlgpfbfhaifgaa.index
open Go.RowKit clock lite
set_option linter.unusedVariables false
set_option linter.unusedSimpArgs false

theorem infoItem : (Try.prog.info? 32).map (fun i => (i.zero, i.size, i.bytes)) = some (some (.agg #[.int .i64 0, .int .i64 0, .int .i64 0]), 3, 24) := by kernel_rfl
theorem own_one (w : World) (base : Nat) (x : Op3) (T : TypeId) (h : base ≤ w.heap.size) : (w.alloc (.cells #[.int .i64 x.1, .int .i64 x.2.1, .int .i64 x.2.2] T)).ownsRow base T 3 (.slice (some ⟨w.heap.size, 0, none⟩) 1 1) 1 (opV [x]) :=
  ⟨rfl, .inr ⟨w.heap.size, 1, #[.int .i64 x.1, .int .i64 x.2.1, .int .i64 x.2.2], rfl, h, heap_new w _, Nat.le_refl _, by unfold maxLen; omega, rfl, rfl⟩⟩
theorem own_oneB (w : World) (B : Nat) (hB : w.heap.size = B) (base : Nat) (x : Op3) (T : TypeId) (h : base ≤ w.heap.size) : (w.alloc (.cells #[.int .i64 x.1, .int .i64 x.2.1, .int .i64 x.2.2] T)).ownsRow base T 3 (.slice (some ⟨B, 0, none⟩) 1 1) 1 (opV [x]) := by
  subst hB; exact own_one w base x T h
theorem al {n : Nat} {W : World} {o : Obj} (h : n ≤ W.heap.size) : n ≤ (W.alloc o).heap.size := by rw [World.size_alloc]; omega
theorem ownsRow.below {w w' : World} {base : Nat} {e : TypeId} {size n : Nat} {v : Value} {xs : List Value} (h : w.ownsRow base e size v n xs) (hb : Below w.heap.size w w') : w'.ownsRow base e size v n xs := by
  refine ⟨h.1, ?_⟩
  rcases h.2 with h2 | ⟨g, cap, cur, h1, h2, h3, h4⟩
  · exact .inl h2
  · exact .inr ⟨g, cap, cur, h1, h2, (hb.block g (Array.getElem?_eq_some_iff.1 h3).1).trans h3, h4⟩

theorem div_mid {k N j : Nat} (h : j < N) : (k * N + j) / N = k := by
  rw [Nat.mul_comm, Nat.mul_add_div (by omega), Nat.div_eq_of_lt h]; rfl
theorem UnderP.len {N : Nat} {L M : List Op3} (h : UnderP N L M) (hN : 1 ≤ N) : M.length ≤ L.length := by
  by_cases h0 : M.length = 0
  · omega
  · have h1 := (h (M.length - 1) (by omega)).1
    have h2 := Nat.mul_le_mul_left (M.length - 1) hN
    omega
theorem box_of {wm W1 wr : World} {x y z : Value} {T : TypeId} (hW : W1 = wm.alloc (.cells #[x, y, z] T)) (hB : Below W1.heap.size W1 wr) :
    (wr.cell? ⟨wm.heap.size, 0, none⟩ = some x ∧ wr.cell? ⟨wm.heap.size, 1, none⟩ = some y ∧ wr.cell? ⟨wm.heap.size, 2, none⟩ = some z) ∧ Below wm.heap.size wm wr := by
  subst hW
  exact ⟨(cells3' ((hB.block wm.heap.size (by simp)).trans (heap_new wm _))).1, (box1 _).trans (hB.mono (by simp))⟩

/-- The values of the source, as far as they are laid. -/
def SrcRel (w : World) (v5 v6 : Value) (wr : World) : Prop := ∃ L : List Op3, L.length ≤ 200 ∧ v6 = .int .i64 L.length ∧ PS [] L ∧ wr.ownsRow w.heap.size 32 3 v5 L.length (opV L) ∧ Below w.heap.size w wr
/-- The values behind the first operators. -/
def MainRel (w : World) (l : List Op3) (v5 v7 : Value) (wr : World) : Prop := ∃ (k : Nat) (L : List Op3) (ad : Option Addr) (cap : Nat), k ≤ l.length ∧ v7 = .int .i64 k ∧ v5 = .slice ad L.length cap ∧ L.length ≤ cap ∧ cap ≤ 9223372036854775807 ∧ OpA wr ad L ∧ Below w.heap.size w wr ∧ PS (l.take k).reverse L ∧ L.length ≤ 400 + k
def OuterRel (W1 : World) (N : Nat) (L : List Op3) (v9 v10 : Value) (wr : World) : Prop := ∃ (k : Nat) (M : List Op3), k ≤ L.length ∧ v10 = .int .i64 k ∧ OverP N L M ∧ M.length ≤ 400 ∧ (M.length = k * N ∨ M.length = 400) ∧ wr.ownsRow W1.heap.size 32 3 v9 M.length (opV M) ∧ Below W1.heap.size W1 wr
def InnerRel (W1 : World) (N : Nat) (L : List Op3) (k : Nat) (v9 v11 : Value) (wr : World) : Prop := ∃ (j : Nat) (M : List Op3), j ≤ N ∧ v11 = .int .i64 j ∧ OverP N L M ∧ M.length ≤ 400 ∧ M.length = k * N + j ∧ wr.ownsRow W1.heap.size 32 3 v9 M.length (opV M) ∧ Below W1.heap.size W1 wr
def UnderRel (W1 : World) (N : Nat) (L : List Op3) (v9 v12 : Value) (wr : World) : Prop := ∃ (q : Nat) (M : List Op3), v12 = .int .i64 (q : Int) ∧ q = M.length * N ∧ UnderP N L M ∧ q ≤ L.length + N ∧ wr.ownsRow W1.heap.size 32 3 v9 M.length (opV M) ∧ Below W1.heap.size W1 wr

set_option maxRecDepth 100000 in
set_option maxHeartbeats 8000000 in
theorem stream_any (l : List Op3) (a : Option Addr) (ca : Nat) (w : World) (hl : l.length ≤ 20) (hA : OpA w a l) (hr : l.all rightO = true) :
    Calls Try.prog 10 #[.slice a l.length ca, .int .i64 200] w fun e w' => (∃ (L : List Op3) (ad : Option Addr) (cap : Nat), e = .returned (.slice ad L.length cap) ∧ OpA w' ad L ∧ PS l.reverse L ∧ L.length ≤ 420) ∧ Below w.heap.size w w' := by
  have HA := Lib.hid hA
  have HR := Lib.hid hr
  obtain ⟨i0, hi0, hi1, hi2, hi3⟩ := info_parts infoItem
  have HI := Lib.hid (And.intro hi0 (And.intro hi1 (And.intro hi2 hi3)))
  clear hi0 hi1 hi2 hi3 hA hr
  go_enter Try.func10, Try.ntmps10
  go_wp2
  go_loopw [5, 6] (fun v5 v6 wr => Hid (SrcRel w v5 v6 wr)) (fun _ i _ => 200 - (intOf i).toNat)
  case atStart => exact ⟨[], by simp, rfl, PS.nil, own_nil _ _ _, Below.refl _ _⟩
  case round =>
    obtain ⟨L, hL, rfl, hps, hown, hB⟩ := hrel.out
    clear hrel
    have HO := Lib.hid hown
    have HB := Lib.hid hB
    have HPS := Lib.hid hps
    have hsz := hB.size
    by_cases hlt : L.length < 200
    · clear hown hB hps
      go_wp2_with (at_builtin; (refine wpList_append_gen _ rfl (.tmp 18) (.tmp 21) 29 rfl w.heap.size 32 i0 _ 3 24 Try.underlying29 HI.out.1 HI.out.2.1 HI.out.2.2.1 HI.out.2.2.2 rfl (by omega) _ L.length (opV L) rfl (ownsRow.below HO.out ((Below.refl _ _).alloc (Nat.le_refl _) _)) (some ⟨wr.heap.size, 0, none⟩) 1 1 (opV [((L.length : Int), 0, 1)]) rfl rfl (opV_cells (opA_new wr 32 ((L.length : Int), 0, 1))) (opV_one _) (by unfold maxLen; omega) (by omega) (Nat.le_trans hsz (by simp)) ?_; intro v1 w4 hown hg hbl; replace HB := Lib.hid (Below.grown (HB.out.alloc hsz _) hg (Nat.le_trans hsz (by simp)) (own_ge HO.out)); replace HO := Lib.hid hown; clear hown hg hbl))
      go_roundw
      case rel => exact ⟨L ++ [((L.length : Int), 0, 1)], by simp; omega, by first | (simp; done) | (simp; go_num), HPS.out.src, by rw [List.length_append, opV_app]; exact HO.out, HB.out⟩
      case measure => first | (simp [intOf]; done) | (simp [intOf]; omega)
    · have hk : L.length = 200 := by omega
      obtain ⟨ad, cap, rfl, hoa, hc1, hc2⟩ := opA_owns' rfl hown
      have HOA := Lib.hid hoa
      clear hown hB hps hoa HO
      go_wp2
      clear hlt
      go_loopw [5, 7] (fun v5 v7 wr => Hid (MainRel w l v5 v7 wr)) (fun _ i _ => l.length - (intOf i).toNat)
      case atStart => exact ⟨0, L, ad, cap, by omega, rfl, rfl, hc1, hc2, HOA.out, HB.out, by simpa using HPS.out, by omega⟩
      case round =>
        clear hc1 hc2 hL hk hsz HOA HB HPS
        obtain ⟨k, L, ad, cap, hk, rfl, rfl, hc1, hc2, hoa, hB, hps, hL⟩ := hrel.out
        clear hrel
        have HB := Lib.hid hB
        have HPS := Lib.hid hps
        have HOA := Lib.hid hoa
        have hsz := hB.size
        by_cases hlt : k < l.length
        · obtain ⟨b, off, rfl, hb, c0, c1, c2⟩ := (HA.out.below hB (Nat.le_refl _)) k hlt
          have hro : rightO (l.getD k (0, 0, 0)) = true := by have := HR.out; rw [List.all_eq_true] at this; rw [plain.getD_lt _ hlt]; exact this _ (List.getElem_mem hlt)
          have hrev := take_rev hlt
          obtain ⟨o, ho⟩ : ∃ o, l.getD k (0, 0, 0) = o := ⟨_, rfl⟩
          rw [ho] at c0 c1 c2 hro hrev
          clear ho
          obtain ⟨ok, on, od⟩ := o
          simp only at c0 c1 c2
          unfold rightO at hro
          have hro := of_decide_eq_true hro
          simp only at hro
          have HRV := Lib.hid hrev
          clear hB hps hoa hrev
          have hkk : ok = 3 ∨ ok = 4 ∨ ok = 5 ∨ ok = 6 ∨ ok = 7 ∨ ok = 8 := by omega
          rcases hkk with rfl | rfl | rfl | rfl | rfl | rfl
          · have hN : 1 ≤ on := by omega
            obtain ⟨N, rfl⟩ : ∃ N : Nat, on = (N : Int) := ⟨on.toNat, by omega⟩
            have hN1 : 1 ≤ N := by omega
            have hN2 : N ≤ 100 := by omega
            clear hro hN
            obtain ⟨wm, rfl⟩ : ∃ wm : World, wm = wr := ⟨_, rfl⟩
            obtain ⟨W1, hW1⟩ : ∃ W1 : World, W1 = wm.alloc (.cells #[.int .i64 3, .int .i64 (N : Int), .int .i64 od] 43) := ⟨_, rfl⟩
            have HW1 := Lib.hid hW1
            clear hW1
            go_wp2
            rw [← HW1.out]
            go_loopw [9, 10] (fun v9 v10 wr1 => Hid (OuterRel W1 N L v9 v10 wr1)) (fun _ i _ => L.length - (intOf i).toNat)
            case atStart => exact ⟨0, [], by omega, rfl, fun i hi => by simp at hi, by simp, by simp, own_nil _ _ _, Below.refl _ _⟩
            case round =>
              obtain ⟨kk, M, hkk, rfl, hov, hM4, hMk, hown, hB1⟩ := hrel.out
              clear hrel
              have hso := hB1.size
              obtain ⟨⟨x0, x1, x2⟩, hbm⟩ := box_of HW1.out hB1
              obtain ⟨ad9, cap9, rfl, hoa9, hc9, hc10⟩ := opA_owns' rfl hown
              have HO1 := Lib.hid hown
              have HB1 := Lib.hid hB1
              have HOV := Lib.hid hov
              have HOA9 := Lib.hid hoa9
              have HBM := Lib.hid hbm
              clear hown hB1 hov hoa9 hbm
              by_cases hgo : kk < L.length ∧ M.length < 400
              · have hMk' : M.length = kk * N := by omega
                have g1 : (kk : Int) < (L.length : Int) := by omega
                have g2 : (M.length : Int) < 400 := by omega
                obtain ⟨hkl, hM5⟩ := hgo
                obtain ⟨b1, o1, rfl, hb1, y0, y1, y2⟩ := (HOA.out.below HBM.out (Nat.le_refl _)) kk hkl
                clear hb1 y0 y1 y2
                go_wp2
                obtain ⟨wo, rfl⟩ : ∃ wo : World, wo = wr := ⟨_, rfl⟩
                go_loopw [9, 11] (fun v9 v11 wr1 => Hid (InnerRel W1 N L kk v9 v11 wr1)) (fun _ i _ => N - (intOf i).toNat)
                case atStart => exact ⟨0, M, by omega, rfl, HOV.out, hM4, by omega, HO1.out, HB1.out⟩
                case round =>
                  clear g2 hM5 hMk hMk' hM4 HO1 HB1 HOV HOA9 HBM x0 x1 x2
                  obtain ⟨j, M, hj, rfl, hov, hM4, hMk, hown, hB1⟩ := hrel.out
                  clear hrel
                  have hs1 := hB1.size
                  obtain ⟨⟨x0, x1, x2⟩, hbm⟩ := box_of HW1.out hB1
                  obtain ⟨ad9, cap9, rfl, hoa9, hc9, hc10⟩ := opA_owns' rfl hown
                  have HO := Lib.hid hown
                  have HB1 := Lib.hid hB1
                  have HOV := Lib.hid hov
                  have HOA9 := Lib.hid hoa9
                  have HBM := Lib.hid hbm
                  clear hown hB1 hov hoa9 hbm
                  by_cases hgo : j < N ∧ M.length < 400
                  · have g3 : (j : Int) < (N : Int) := by omega
                    have g4 : (M.length : Int) < 400 := by omega
                    obtain ⟨hjN, hM5⟩ := hgo
                    obtain ⟨b1, o1, e1, hb1, y0, y1, y2⟩ := (HOA.out.below HBM.out (Nat.le_refl _)) kk hkl
                    injection e1 with e1; injection e1 with e1 e2; subst e1; subst e2
                    obtain ⟨x, hx⟩ : ∃ x, L.getD kk (0, 0, 0) = x := ⟨_, rfl⟩
                    rw [hx] at y0 y1 y2
                    have HX := Lib.hid hx
                    clear hx
                    obtain ⟨xk, xn, xd⟩ := x
                    simp only at y0 y1 y2
                    go_wp2_with (at_builtin; (refine wpList_append_gen _ rfl (.tmp 65) (.tmp 70) 29 rfl W1.heap.size 32 i0 _ 3 24 Try.underlying29 HI.out.1 HI.out.2.1 HI.out.2.2.1 HI.out.2.2.2 rfl (by omega) _ M.length (opV M) rfl (ownsRow.below HO.out (box1 _)) (some ⟨wr.heap.size, 0, none⟩) 1 1 (opV [(xk, xn, xd)]) rfl rfl (opV_cells (opA_new wr 32 (xk, xn, xd))) (opV_one _) (by unfold maxLen; omega) (by omega) (al hs1) ?_; intro v1 w4 hown hg hbl; have HB4 := Lib.hid (Below.grown (HB1.out.alloc hs1 _) hg (al hs1) (own_ge HO.out)); obtain ⟨⟨u0, u1, u2⟩, _⟩ := box_of HW1.out HB4.out; have HO4 := Lib.hid hown; clear hown hg hbl))
                    go_roundw
                    case rel => exact ⟨j + 1, M ++ [(xk, xn, xd)], by omega, by go_num, by rw [← HX.out]; exact HOV.out.snoc (by rw [hMk]; exact div_mid hjN) hkl, by simp; omega, by simp; omega, by rw [List.length_append, opV_app]; exact HO4.out, HB4.out⟩
                    case measure => first | (simp [intOf]; done) | (simp [intOf]; omega)
                  · by_cases hjN : j < N
                    · have g3 : (j : Int) < (N : Int) := by omega
                      have g4 : decide ((M.length : Int) < 400) = false := decide_eq_false (by omega)
                      have hM5 : M.length = 400 := by omega
                      go_wp2
                      go_roundw
                      case rel => exact ⟨kk + 1, M, by omega, by go_num, HOV.out, hM4, .inr hM5, HO.out, HB1.out⟩
                      case measure => first | (simp [intOf]; done) | (simp [intOf]; omega)
                    · have g3 : decide ((j : Int) < (N : Int)) = false := decide_eq_false (by omega)
                      have hM5 : M.length = (kk + 1) * N := by rw [Nat.add_mul, Nat.one_mul]; omega
                      go_wp2
                      go_roundw
                      case rel => exact ⟨kk + 1, M, by omega, by go_num, HOV.out, hM4, .inl hM5, HO.out, HB1.out⟩
                      case measure => first | (simp [intOf]; done) | (simp [intOf]; omega)
              · by_cases hkl : kk < L.length
                · have g1 : (kk : Int) < (L.length : Int) := by omega
                  have g2 : decide ((M.length : Int) < 400) = false := decide_eq_false (by omega)
                  go_wp2
                  go_roundw
                  case rel => exact ⟨k + 1, M, ad9, cap9, by omega, by go_num, rfl, hc9, hc10, HOA9.out, HB.out.trans (HBM.out.mono hsz), by rw [HRV.out]; exact HPS.out.over (by omega) (by simpa using HOV.out), by omega⟩
                  case measure => first | (simp [intOf]; done) | (simp [intOf]; omega)
                · have g1 : decide ((kk : Int) < (L.length : Int)) = false := decide_eq_false (by omega)
                  go_wp2
                  go_roundw
                  case rel => exact ⟨k + 1, M, ad9, cap9, by omega, by go_num, rfl, hc9, hc10, HOA9.out, HB.out.trans (HBM.out.mono hsz), by rw [HRV.out]; exact HPS.out.over (by omega) (by simpa using HOV.out), by omega⟩
                  case measure => first | (simp [intOf]; done) | (simp [intOf]; omega)
          · have hN : 1 ≤ on := by omega
            obtain ⟨N, rfl⟩ : ∃ N : Nat, on = (N : Int) := ⟨on.toNat, by omega⟩
            have hN1 : 1 ≤ N := by omega
            have hN2 : N ≤ 100 := by omega
            clear hro hN
            obtain ⟨wm, rfl⟩ : ∃ wm : World, wm = wr := ⟨_, rfl⟩
            obtain ⟨W1, hW1⟩ : ∃ W1 : World, W1 = wm.alloc (.cells #[.int .i64 4, .int .i64 (N : Int), .int .i64 od] 43) := ⟨_, rfl⟩
            have HW1 := Lib.hid hW1
            clear hW1
            go_wp2
            rw [← HW1.out]
            go_loopw [9, 12] (fun v9 v12 wr1 => Hid (UnderRel W1 N L v9 v12 wr1)) (fun _ i _ => L.length - (intOf i).toNat)
            case atStart => exact ⟨0, [], rfl, by simp, fun i hi => by simp at hi, by omega, own_nil _ _ _, Below.refl _ _⟩
            case round =>
              obtain ⟨q, M, rfl, hqM, hov, hqL, hown, hB1⟩ := hrel.out
              clear hrel
              have hs1 := hB1.size
              obtain ⟨⟨x0, x1, x2⟩, hbm⟩ := box_of HW1.out hB1
              obtain ⟨ad9, cap9, rfl, hoa9, hc9, hc10⟩ := opA_owns' rfl hown
              have hML := hov.len hN1
              have HO := Lib.hid hown
              have HB1 := Lib.hid hB1
              have HOV := Lib.hid hov
              have HOA9 := Lib.hid hoa9
              have HBM := Lib.hid hbm
              have HQM := Lib.hid hqM
              clear hown hB1 hov hoa9 hbm hqM
              by_cases hql : q < L.length
              · have g1 : (q : Int) < (L.length : Int) := by omega
                obtain ⟨b1, o1, rfl, hb1, y0, y1, y2⟩ := (HOA.out.below HBM.out (Nat.le_refl _)) q hql
                obtain ⟨x, hx⟩ : ∃ x, L.getD q (0, 0, 0) = x := ⟨_, rfl⟩
                rw [hx] at y0 y1 y2
                have HX := Lib.hid hx
                clear hx
                obtain ⟨xk, xn, xd⟩ := x
                simp only at y0 y1 y2
                go_wp2_with (at_builtin; (refine wpList_append_gen _ rfl (.tmp 82) (.tmp 87) 29 rfl W1.heap.size 32 i0 _ 3 24 Try.underlying29 HI.out.1 HI.out.2.1 HI.out.2.2.1 HI.out.2.2.2 rfl (by omega) _ M.length (opV M) rfl (ownsRow.below HO.out (box1 _)) (some ⟨wr.heap.size, 0, none⟩) 1 1 (opV [(xk, xn, xd)]) rfl rfl (opV_cells (opA_new wr 32 (xk, xn, xd))) (opV_one _) (by unfold maxLen; omega) (by omega) (al hs1) ?_; intro v1 w4 hown hg hbl; have HB4 := Lib.hid (Below.grown (HB1.out.alloc hs1 _) hg (al hs1) (own_ge HO.out)); obtain ⟨⟨u0, u1, u2⟩, _⟩ := box_of HW1.out HB4.out; have HO4 := Lib.hid hown; clear hown hg hbl))
                go_roundw
                case rel => exact ⟨q + N, M ++ [(xk, xn, xd)], by go_num, by rw [List.length_append, HQM.out, Nat.add_mul]; simp, by rw [← HX.out]; exact HOV.out.snoc HQM.out.symm hql, by omega, by rw [List.length_append, opV_app]; exact HO4.out, HB4.out⟩
                case measure => first | (simp [intOf]; done) | (simp [intOf]; omega)
              · have g1 : decide ((q : Int) < (L.length : Int)) = false := decide_eq_false (by omega)
                go_wp2
                go_roundw
                case rel => exact ⟨k + 1, M, ad9, cap9, by omega, by go_num, rfl, hc9, hc10, HOA9.out, HB.out.trans (HBM.out.mono hsz), by rw [HRV.out]; exact HPS.out.under (by omega) (by omega) (by simpa using HOV.out), by omega⟩
                case measure => first | (simp [intOf]; done) | (simp [intOf]; omega)
          · clear hro
            go_wp2
            go_roundw
            case rel => exact ⟨k + 1, L, ad, cap, by omega, by go_num, rfl, hc1, hc2, HOA.out.below (box1 _) (Nat.le_refl _), HB.out.alloc hsz _, by rw [HRV.out]; exact HPS.out.shift, by omega⟩
            case measure => first | (simp [intOf]; done) | (simp [intOf]; omega)
          · clear hro
            go_wp2_with (at_builtin; go_loud (refine wpList_append_gen _ rfl (.tmp 38) (.tmp 39) 29 rfl w.heap.size 32 i0 _ 3 24 Try.underlying29 HI.out.1 HI.out.2.1 HI.out.2.2.1 HI.out.2.2.2 rfl (by omega) _ 1 (opV [(0, on, 2)]) rfl (own_oneB (wr.alloc _) (wr.heap.size + 1) (World.size_alloc _ _) _ (0, on, 2) 32 (al hsz)) ad L.length cap (opV L) rfl (opV_len L) (opV_cells (HOA.out.below (((Below.refl _ _).alloc (Nat.le_refl _) _).alloc (al (Nat.le_refl _)) _) (Nat.le_refl _))) (opV_one _) (by unfold maxLen; omega) (by omega) (al (al hsz)) ?_; intro v1 w4 hown hg hbl; have HB7 := Lib.hid (Below.grown ((HB.out.alloc hsz _).alloc (al hsz) _) hg (al (al hsz)) (own_slice (g := wr.heap.size + 1) (by omega))); obtain ⟨ad7, cap7, rfl, hoa7, hc7, hc8⟩ := opA_owns' (l := (0, on, 2) :: L) (by simp; omega) hown; have HO7 := Lib.hid hoa7; clear hown hg hbl hoa7))
            go_roundw
            case rel => exact ⟨k + 1, (0, on, 2) :: L, ad7, cap7, by omega, by go_num, by simp; omega, by simp; omega, hc8, HO7.out, HB7.out, by rw [HRV.out]; exact HPS.out.cons (by omega), by simp; omega⟩
            case measure => first | (simp [intOf]; done) | (simp [intOf]; omega)
          · clear hro
            cases L with
            | nil =>
              go_wp2
              go_roundw
              case rel => exact ⟨k + 1, [], none, 0, by omega, by go_num, rfl, Nat.le_refl _, by omega, fun j hj => by simp at hj, HB.out.alloc hsz _, PS.nil, by simp⟩
              case measure => first | (simp [intOf]; done) | (simp [intOf]; omega)
            | cons x L =>
              obtain ⟨b1, off1, rfl, hb1, _⟩ := HOA.out 0 (by simp)
              have hl1 : ((L.length + 1 : Nat) : Int) > 0 := by omega
              simp only [List.length_cons] at hc1 hL ⊢
              by_cases hcap : cap = 1
              · have hL0 : L = [] := by cases L with | nil => rfl | cons y L => simp only [List.length_cons] at hc1; omega
                subst hL0
                subst hcap
                go_wp2
                go_roundw
                case rel => exact ⟨k + 1, [], _, 0, by omega, by go_num, rfl, by simp, by omega, fun j hj => by simp at hj, HB.out.alloc hsz _, by rw [HRV.out]; exact PS.tail (L := []) (by decide) HPS.out, by simp⟩
                case measure => first | (simp [intOf]; done) | (simp [intOf]; omega)
              · go_wp2
                go_roundw
                case rel => exact ⟨k + 1, L, _, cap - 1, by omega, by go_num, rfl, by omega, by omega, (HOA.out.below (box1 _) (Nat.le_refl _)).tail, HB.out.alloc hsz _, by rw [HRV.out]; exact PS.tail (by omega) HPS.out, by omega⟩
                case measure => first | (simp [intOf]; done) | (simp [intOf]; omega)
          · clear hro
            go_wp2_with (at_builtin; go_loud (refine wpList_append_gen _ rfl (.tmp 38) (.tmp 39) 29 rfl w.heap.size 32 i0 _ 3 24 Try.underlying29 HI.out.1 HI.out.2.1 HI.out.2.2.1 HI.out.2.2.2 rfl (by omega) _ 1 (opV [(0, on, 2)]) rfl (own_oneB (wr.alloc _) (wr.heap.size + 1) (World.size_alloc _ _) _ (0, on, 2) 32 (al hsz)) ad L.length cap (opV L) rfl (opV_len L) (opV_cells (HOA.out.below (((Below.refl _ _).alloc (Nat.le_refl _) _).alloc (al (Nat.le_refl _)) _) (Nat.le_refl _))) (opV_one _) (by unfold maxLen; omega) (by omega) (al (al hsz)) ?_; intro v1 w4 hown hg hbl; have HB7 := Lib.hid (Below.grown ((HB.out.alloc hsz _).alloc (al hsz) _) hg (al (al hsz)) (own_slice (g := wr.heap.size + 1) (by omega))); obtain ⟨ad7, cap7, rfl, hoa7, hc7, hc8⟩ := opA_owns' (l := (0, on, 2) :: L) (by simp; omega) hown; have HO7 := Lib.hid hoa7; clear hown hg hbl hoa7))
            go_roundw
            case rel => exact ⟨k + 1, (0, on, 2) :: L, ad7, cap7, by omega, by go_num, by simp; omega, by simp; omega, hc8, HO7.out, HB7.out, by rw [HRV.out]; exact HPS.out.cons (by omega), by simp; omega⟩
            case measure => first | (simp [intOf]; done) | (simp [intOf]; omega)
        · have hk' : k = l.length := by omega
          subst hk'
          have hps' : PS l.reverse L := by have := HPS.out; rwa [List.take_length] at this
          have HP2 := Lib.hid hps'
          clear hB hps hoa hps'
          go_wp2
          go_ret
          exact ⟨⟨L, ad, cap, rfl, HOA.out, HP2.out, by omega⟩, HB.out⟩

end Go.Proofs.Ytdlgpfbfhaifgaa.index
