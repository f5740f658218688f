/-
  All expressions of flows, one by one: the iterator's contract.
-/
import Derived.Test.YtjcmjlkihfcdcaaChk8
namespace Go.Proofs.Ytjcmjlkihfcdcaa.syn
open Go.RowKit
set_option linter.unusedVariables false
set_option linter.unusedSimpArgs false
attribute [local go_sem] Oper.semAt_some

theorem visitY_any {W0 : World} (F : Fence) (hd : F.depth = none) (hF : F.fn 37) (hro : F.round = none) (l B N : Nat) (J Jx : List (VX W0) → World → Prop) (hJ : AbidesFrom B J)
    (hY : ∀ m pre x W, J pre W → pre.length < N → YieldAt F m Try.prog l x.vs W fun e W' => (e = .returned (.bool true) ∧ J (pre ++ [x]) W' ∧ KC W0.heap.size W W') ∨ (e = .returned (.bool false) ∧ Jx (pre ++ [x]) W')) :
    ∀ (e : PE) (n : Nat) (ad : Option Addr) (cap : Nat) (pre : List (VX W0)) (W : World), AE W0 e ad cap → Below W0.heap.size W0 W → J pre W → pre.length + e.args.sz + 1 ≤ N →
      CallsIn F n Try.prog 37 #[.agg #[.int .i64 e.k, .string e.nm, .int .i64 e.n, .int .i64 e.d, .slice ad e.args.len cap, .int .i64 e.a], .func (.yield l) #[] #[]] W (VYAns W0.heap.size J Jx pre e W) := by
  intro e
  suffices h : ∀ (M : Nat) (e : PE), e.args.sz < M → ∀ (n : Nat) (ad : Option Addr) (cap : Nat) (pre : List (VX W0)) (W : World), AE W0 e ad cap → Below W0.heap.size W0 W → J pre W → pre.length + e.args.sz + 1 ≤ N →
      CallsIn F n Try.prog 37 #[.agg #[.int .i64 e.k, .string e.nm, .int .i64 e.n, .int .i64 e.d, .slice ad e.args.len cap, .int .i64 e.a], .func (.yield l) #[] #[]] W (VYAns W0.heap.size J Jx pre e W) from h _ e (Nat.lt_succ_self _)
  intro M
  induction M with
  | zero => intro e h; omega
  | succ M ih => intro e h; exact visitY_step F hd hF hro l B N J Jx hJ hY e (fun e' h' => ih e' (by omega))

def itemsF : List FL → List PE
  | [] => []
  | f :: l => f.e :: (itemsL f.e.args ++ itemsF l)
theorem itemsF_sz : ∀ l : List FL, (itemsF l).length = sumF l := by
  intro l
  induction l with
  | nil => rfl
  | cons f l ih => simp only [itemsF, List.length_cons, List.length_append, ih, itemsL_sz, sumF]; omega
def WiRel {W0 : World} (J : List (VX W0) → World → Prop) (flows : List FL) (W : World) (v : Value) (wr : World) : Prop :=
  ∃ (i : Nat) (ys : List (VX W0)), v = .int .i64 (i : Int) ∧ i ≤ flows.length ∧ ys.map (·.e) ++ itemsF (flows.drop i) = itemsF flows ∧ J ys wr ∧ KC W0.heap.size W wr

set_option maxRecDepth 100000 in
set_option maxHeartbeats 4000000 in
theorem within1_in {W0 : World} (F : Fence) (hd : F.depth = none) (hG : F.fn 50) (hF : F.fn 37) (hro : F.round = none) (n l B Bs : Nat) (flows : List FL) (af : Option Addr) (cf : Nat)
    (hr : Row FlC 8 W0 flows af) (hc1 : flows.length ≤ cf) (hc2 : cf ≤ 9223372036854775807) (J Jx : List (VX W0) → World → Prop) (hJ : AbidesFrom B J)
    (hY : ∀ m pre x W, J pre W → pre.length < (itemsF flows).length → YieldAt F m Try.prog l x.vs W fun e W' => (e = .returned (.bool true) ∧ J (pre ++ [x]) W' ∧ KC W0.heap.size W W') ∨ (e = .returned (.bool false) ∧ Jx (pre ++ [x]) W'))
    (W : World) (hB : Below W0.heap.size W0 W) (hbx : W.cell? ⟨Bs, 0, none⟩ = some (.slice af flows.length cf)) (h0 : J [] W) :
    CallsIn F n Try.prog 50 #[.func (.yield l) #[] #[], .pointer (some ⟨Bs, 0, none⟩)] W fun e W' => (∃ v, e = .returned v) ∧
      ((∃ xs : List (VX W0), xs.map (·.e) = itemsF flows ∧ J xs W') ∨ (∃ pre : List (VX W0), pre.map (·.e) <+: itemsF flows ∧ Jx pre W')) := by
  have hdd : ∀ k : Nat, (F.depth.isSome = true → 1 ≤ k) := fun k h => by rw [hd] at h; cases h
  have hfl64 : flows.length ≤ 9223372036854775807 := Nat.le_trans hc1 hc2
  have HV := Lib.hid (visitY_any F hd hF hro l B (itemsF flows).length J Jx hJ hY)
  have HR := Lib.hid hr
  have HB := Lib.hid hB
  have HJ0 := Lib.hid h0
  have hsz0 := hB.size
  clear hr hY hB h0
  refine callsIn_of_wp Try.func50 rfl hG ?_ hro
  simp only [Try.ntmps50, List.size_toArray, List.length_cons, List.length_nil, Nat.reduceAdd, Nat.reduceSub, Array.replicate_succ, Array.replicate_zero, List.push_toArray, List.append_toArray, List.nil_append, List.cons_append]
  gi_wp2
  gi_loopw [7] (fun v wr => Hid (WiRel J flows W v wr)) (fun i _ => flows.length - (intOf i).toNat)
  case atStart => exact ⟨0, [], rfl, Nat.zero_le _, rfl, HJ0.out, KC.refl _ _⟩
  case round =>
    obtain ⟨i, ys, rfl, hi, hys, hj, hk⟩ := hrel.out
    clear hrel
    have hbw : Below W0.heap.size W0 wr := HB.out.trans hk.below
    have HBW := Lib.hid hbw
    have HK := Lib.hid hk
    have HJY := Lib.hid hj
    have hszw := hbw.size
    by_cases hlt : i < flows.length
    · obtain ⟨bb, oo, rfl, hbb0, hfl0⟩ := HR.out.at hlt
      have hfl' := hfl0.later hbw hbb0
      have hbb := Nat.lt_of_lt_of_le hbb0 hszw
      rw [drop_fl hlt] at hys
      obtain ⟨f, hf⟩ : ∃ f, flows[i] = f := ⟨_, rfl⟩
      rw [hf] at hfl' hfl0 hys
      obtain ⟨nm, ⟨k1, nm1, n1, d1, args1, a1⟩, fa⟩ := f
      obtain ⟨ad, cap, y0, y1, y2, y3, y4, y5, y6, y7, hae, hfn⟩ := hfl'.cells
      obtain ⟨ad', cap', _, _, _, _, _, y5', _, _, hae', _⟩ := hfl0.cells
      have hee := (hbw.cell (p := ⟨bb, oo + i * 8 + 5, none⟩) hbb0).trans y5'
      rw [y5] at hee
      injection hee with hee; injection hee with he1 he2 he3
      subst he1; subst he3
      have hlys := congrArg List.length hys
      simp only [List.length_append, List.length_map, itemsF, List.length_cons, itemsL_sz] at hlys
      have HC := Lib.hid (HV.out ⟨k1, nm1, n1, d1, args1, a1⟩ (n - 1) ad cap ys (wr.alloc (Obj.cells #[.string nm, .int .i64 k1, .string nm1, .int .i64 n1, .int .i64 d1, .slice ad args1.len cap, .int .i64 a1, .int .i64 fa] 41)) hae' (hbw.alloc hszw _) (abide_alloc hJ hj _) (by show ys.length + args1.sz + 1 ≤ _; omega))
      simp only at HC
      have hie : (i : Int) < (flows.length : Int) := by omega
      have HYS := Lib.hid hys
      clear hbw hk hj hfl' hfl0 hae hae' y5' hfn hbb0 hys hlys
      gi_wp2_with ((try refine ⟨hdd _, ?_⟩); gi_at_call 37; refine HC.out.mono ?_; rintro x w2 (⟨rfl, ⟨zs, hzs, hj3⟩, hk3⟩ | ⟨rfl, q, hq, hjx⟩))
      · go_roundw
        case rel => exact ⟨i + 1, ys ++ zs, by go_num, by omega, by rw [List.map_append, hzs, ← HYS.out, itemsF]; simp, hj3, (HK.out.alloc hszw _).trans hk3⟩
        case measure => simp [intOf]; omega
      · refine bodyPost_ret (results_none rfl _ _ _) rfl ?_
        refine ⟨⟨_, rfl⟩, .inr ⟨ys ++ q, ?_, hjx⟩⟩
        obtain ⟨r, hr⟩ := hq
        refine ⟨r ++ itemsF (flows.drop (i + 1)), ?_⟩
        rw [List.map_append, ← HYS.out, itemsF, ← List.cons_append, ← hr]
        simp
    · have hie : i = flows.length := by omega
      subst hie
      have HYS := Lib.hid (show ys.map (·.e) = itemsF flows by rw [List.drop_length] at hys; simpa [itemsF] using hys)
      clear hbw hk hj hys
      gi_wp2
      go_end0
      exact ⟨⟨_, rfl⟩, .inl ⟨ys, HYS.out, HJY.out⟩⟩

theorem within_stops {W0 : World} (F : Fence) (hd : F.depth = none) (hG : F.fn 50) (hF : F.fn 37) (hro : F.round = none) (n Bs : Nat) (flows : List FL) (af : Option Addr) (cf : Nat)
    (hr : Row FlC 8 W0 flows af) (hc1 : flows.length ≤ cf) (hc2 : cf ≤ 9223372036854775807) (w : World) (hBs : Bs < w.heap.size) (hB : Below W0.heap.size W0 w) (hbx : w.cell? ⟨Bs, 0, none⟩ = some (.slice af flows.length cf)) :
    SeqStopsK F n Try.prog 50 #[.pointer (some ⟨Bs, 0, none⟩)] (fun x : VX W0 => x.vs) (KC W0.heap.size) (fun xs => xs.map (·.e) = itemsF flows) (fun pre => pre.map (·.e) <+: itemsF flows) (itemsF flows).length w := fun l J Jx W hW hJ hJx hY h0 =>
  within1_in F hd hG hF hro n l W.heap.size Bs flows af cf hr hc1 hc2 J Jx hJ (fun m pre x W hj hl => YieldAt.deep hd m (hY pre x W hj hl)) W (hB.trans (hW.mono hB.size)) ((hW.cell (p := ⟨Bs, 0, none⟩) hBs).trans hbx) h0

theorem within_any {w : World} (af : Option Addr) (n c : Nat) : Calls Try.prog 41 #[.slice af n c] w fun e w' => e = .returned (.func (.func 50) #[] #[.pointer (some ⟨w.heap.size, 0, none⟩)]) ∧ w' = w.alloc (.cells #[.slice af n c] 24) := by
  go_enter Try.func41, Try.ntmps41
  go_wp2
  go_ret
  exact ⟨rfl, rfl⟩

end Go.Proofs.Ytjcmjlkihfcdcaa.syn
