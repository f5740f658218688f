/-
  All expressions of flows, one by one: the iterator within, for loops that ask them.
-/
import Derived.RangeFuncNested
import Derived.RangeFuncBound
import Derived.RangeFuncCalls
import Derived.RangeFuncLeaves
import Derived.OwnWalkIn
import Derived.TacticsInMore
import Derived.LoopNIn
import Derived.LoopIn
import Derived.Test.YtjcmjlkihfcdcaaChk7
import Derived.Test.YtjcmjlkihfcdcaaKeep
namespace Go.Proofs.Ytjcmjlkihfcdcaa.syn
open Go.RowKit
set_option linter.unusedVariables false
set_option linter.unusedSimpArgs false
attribute [local go_sem] Oper.semAt_some

/-- All expressions of a row, what stands outside ahead of what it holds. -/
def itemsL : PL → List PE
  | .nil => []
  | .cons k nm n d args a tl => ⟨k, nm, n, d, args, a⟩ :: (itemsL args ++ itemsL tl)
theorem itemsL_sz : ∀ l : PL, (itemsL l).length = l.sz := by
  intro l
  induction l with
  | nil => rfl
  | cons k nm n d args a tl ih1 ih2 => simp only [itemsL, List.length_cons, List.length_append, ih1, ih2, PL.sz]; omega
structure VX (W0 : World) where
  e : PE
  ad : Option Addr
  cap : Nat
  ok : AE W0 e ad cap
def VX.vs {W0 : World} (x : VX W0) : Array Value := #[.agg #[.int .i64 x.e.k, .string x.e.nm, .int .i64 x.e.n, .int .i64 x.e.d, .slice x.ad x.e.args.len x.cap, .int .i64 x.e.a]]

def VYAns {W0 : World} (n₀ : Nat) (J Jx : List (VX W0) → World → Prop) (pre : List (VX W0)) (e : PE) (W : World) (x : Ending) (W' : World) : Prop :=
  (x = .returned (.bool true) ∧ (∃ ys : List (VX W0), ys.map (·.e) = e :: itemsL e.args ∧ J (pre ++ ys) W') ∧ KC n₀ W W') ∨
    (x = .returned (.bool false) ∧ ∃ q : List (VX W0), q.map (·.e) <+: (e :: itemsL e.args) ∧ Jx (pre ++ q) W')
def VYRel {W0 : World} (n₀ : Nat) (J : List (VX W0) → World → Prop) (pre : List (VX W0)) (e : PE) (ad : Option Addr) (W : World) (v : Value) (wr : World) : Prop :=
  ∃ (i : Nat) (rest : PL) (ys : List (VX W0)), v = .int .i64 (i : Int) ∧ RestP W0 ad e.args rest i ∧ ys.map (·.e) ++ itemsL rest = e :: itemsL e.args ∧ J (pre ++ ys) wr ∧ KC n₀ W wr

set_option maxRecDepth 100000 in
set_option maxHeartbeats 4000000 in
theorem visitY_step {W0 : World} (F : Fence) (hd : F.depth = none) (hF : F.fn 37) (hro : F.round = none) (l B N : Nat) (J Jx : List (VX W0) → World → Prop) (hJ : AbidesFrom B J)
    (hY : ∀ m pre x W, J pre W → pre.length < N → YieldAt F m Try.prog l x.vs W fun e W' => (e = .returned (.bool true) ∧ J (pre ++ [x]) W' ∧ KC W0.heap.size W W') ∨ (e = .returned (.bool false) ∧ Jx (pre ++ [x]) W')) (e : PE)
    (ih : ∀ e' : PE, e'.args.sz < e.args.sz → ∀ (n : Nat) (ad : Option Addr) (cap : Nat) (pre : List (VX W0)) (W : World), AE W0 e' ad cap → Below W0.heap.size W0 W → J pre W → pre.length + e'.args.sz + 1 ≤ N →
      CallsIn F n Try.prog 37 #[.agg #[.int .i64 e'.k, .string e'.nm, .int .i64 e'.n, .int .i64 e'.d, .slice ad e'.args.len cap, .int .i64 e'.a], .func (.yield l) #[] #[]] W (VYAns W0.heap.size J Jx pre e' W)) :
    ∀ (n : Nat) (ad : Option Addr) (cap : Nat) (pre : List (VX W0)) (W : World), AE W0 e ad cap → Below W0.heap.size W0 W → J pre W → pre.length + e.args.sz + 1 ≤ N →
      CallsIn F n Try.prog 37 #[.agg #[.int .i64 e.k, .string e.nm, .int .i64 e.n, .int .i64 e.d, .slice ad e.args.len cap, .int .i64 e.a], .func (.yield l) #[] #[]] W (VYAns W0.heap.size J Jx pre e W) := by
  intro n ad cap pre W hae hb hj hN
  obtain ⟨k, nm, nn, d, args, a⟩ := e
  have hlen := hae.len
  simp only at hlen hN ih ⊢
  have hdd : ∀ k : Nat, (F.depth.isSome = true → 1 ≤ k) := fun k h => by rw [hd] at h; cases h
  have hsz0 := hb.size
  obtain ⟨X, hX1, hX2⟩ : ∃ X : VX W0, X.vs = #[.agg #[.int .i64 k, .string nm, .int .i64 nn, .int .i64 d, .slice ad args.len cap, .int .i64 a]] ∧ X.e = ⟨k, nm, nn, d, args, a⟩ := ⟨⟨⟨k, nm, nn, d, args, a⟩, ad, cap, hae⟩, rfl, rfl⟩
  obtain ⟨fn, tmps, assign, body, hy, hR⟩ := hY (n - 1) pre X (W.alloc (Obj.cells #[.int .i64 k, .string nm, .int .i64 nn, .int .i64 d, .slice ad args.len cap, .int .i64 a] 39)) (abide_alloc hJ hj _) (by omega)
  rw [hX1] at hy
  have HX2 := Lib.hid hX2
  clear hX1 hX2
  have HA := Lib.hid hae
  have HB := Lib.hid hb
  have HIH := Lib.hid ih
  have HR := Lib.hid hR
  clear hae hb ih hR hj
  refine callsIn_of_wp Try.func37 rfl hF ?_ hro
  simp only [Try.ntmps37, List.size_toArray, List.length_cons, List.length_nil, Nat.reduceAdd, Nat.reduceSub, Array.replicate_succ, Array.replicate_zero, List.push_toArray, List.append_toArray, List.nil_append, List.cons_append]
  gi_wp2
  refine HR.out.mono ?_
  rintro e W1 (⟨rfl, hJ1, hk1⟩ | ⟨rfl, hJx⟩)
  · have hbox := hk1.same W.heap.size _ (heap_new W _) rfl
    obtain ⟨⟨x0, x1, x2, x3, x4, x5⟩, xf⟩ := cells6' hbox
    have HJ1 := Lib.hid hJ1
    have HK1 := Lib.hid ((KC.refl W0.heap.size W).alloc hsz0 _ |>.trans hk1)
    clear hJ1 hk1 hbox
    gi_wp2
    gi_loopw [14] (fun v wr => Hid (VYRel W0.heap.size J pre ⟨k, nm, nn, d, args, a⟩ ad W v wr)) (fun i _ => args.len - (intOf i).toNat)
    case atStart => exact ⟨0, args, [X], rfl, RestP.start HA.out.args, by simp only [List.map_cons, List.map_nil, List.singleton_append, HX2.out], HJ1.out, HK1.out⟩
    case round =>
      obtain ⟨i, rest, ys, rfl, hrest, hys, hj2, hk2⟩ := hrel.out
      clear hrel
      simp only at hys
      have HK2 := Lib.hid hk2
      have HJ2 := Lib.hid hj2
      have hil := hrest.1
      simp only at hil
      have hbw : Below W0.heap.size W0 wr := HB.out.trans hk2.below
      have HRS0 := Lib.hid hrest
      have HRS := Lib.hid (hrest.below hbw)
      have HBW := Lib.hid hbw
      have hszw := hbw.size
      clear hk2 hj2 hrest hbw
      cases rest with
      | nil =>
        have hil' : (i : Int) = (args.len : Int) := by simp only [PL.len] at hil; omega
        simp only [itemsL, List.append_nil] at hys
        have HYS := Lib.hid hys
        clear hys
        gi_wp2
        go_ret
        exact .inl ⟨rfl, ⟨ys, HYS.out, HJ2.out⟩, HK2.out⟩
      | cons k1 nm1 n1 d1 args1 a1 tl =>
        have hil' : (i : Int) < (args.len : Int) := by simp only [PL.len] at hil; omega
        have hrest0 := HRS0.out.2.2.resolve_left (by intro h; cases h)
        obtain ⟨b, o, rfl, hb, h0, h1, h2, h3, h5, hn, ⟨ad1, cap1, h4, hcap1, hcm1, hd1⟩, ht⟩ := HRS.out.2.2.resolve_left (by intro h; cases h)
        obtain ⟨b', o', hbo, hb', g0, g1, g2, g3, g5, gn, ⟨ad1', cap1', g4, gcap1, gcm1, gd1⟩, gt⟩ := hrest0
        injection hbo with hbo; injection hbo with hbo1 hbo2; subst hbo1; subst hbo2
        have hsub := HRS0.out.2.1
        simp only [PL.sz] at hsub
        have hlys := congrArg List.length hys
        simp only [List.length_append, List.length_map, itemsL_sz, List.length_cons, PL.sz] at hlys
        have hee := (HBW.out.cell (p := ⟨b, o + i * 6 + 4, none⟩) hb').trans g4
        rw [h4] at hee
        injection hee with hee; injection hee with he1 he2 he3
        subst he1; subst he3
        have HE := Lib.hid (show AE W0 ⟨k1, nm1, n1, d1, args1, a1⟩ ad1 cap1 from ⟨gn, ⟨gcap1, gcm1⟩, gd1⟩)
        have HC := Lib.hid (HIH.out ⟨k1, nm1, n1, d1, args1, a1⟩ (by show args1.sz < args.sz; omega) (n - 1) ad1 cap1 (pre ++ ys) (wr.alloc (Obj.cells #[.int .i64 k1, .string nm1, .int .i64 n1, .int .i64 d1, .slice ad1 args1.len cap1, .int .i64 a1] 39)) HE.out (HBW.out.alloc hszw _) (abide_alloc hJ HJ2.out _) (by simp only [List.length_append]; omega))
        simp only at HC
        have HYS := Lib.hid hys
        clear hn hd1 ht g0 g1 g2 g3 g5 gn g4 gd1 gt gcap1 gcm1 hb' hys hlys
        gi_wp2_with ((try refine ⟨hdd _, ?_⟩); gi_at_call 37; refine HC.out.mono ?_; rintro x w2 (⟨rfl, ⟨zs, hzs, hj3⟩, hk3⟩ | ⟨rfl, q, hq, hjx⟩))
        · go_roundw
          case rel => exact ⟨i + 1, tl, ys ++ zs, by go_num, HRS0.out.tail, by rw [List.map_append, hzs, ← HYS.out, itemsL]; simp, by rw [← List.append_assoc]; exact hj3, (HK2.out.alloc hszw _).trans hk3⟩
          case measure => simp [intOf]; omega
        · go_ret
          refine .inr ⟨rfl, ys ++ q, ?_, by rw [← List.append_assoc]; exact hjx⟩
          obtain ⟨r, hr⟩ := hq
          refine ⟨r ++ itemsL tl, ?_⟩
          rw [List.map_append, ← HYS.out, itemsL, ← List.cons_append, ← hr]
          simp
  · gi_wp2
    go_ret
    exact .inr ⟨rfl, [X], ⟨itemsL args, by simp only [List.map_cons, List.map_nil, List.singleton_append, HX2.out]⟩, hJx⟩

end Go.Proofs.Ytjcmjlkihfcdcaa.syn
