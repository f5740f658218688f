/-
  Pure: flows that hang on what stands ahead of them: what find comes to, and the clocks that the law reckons one by one.
-/
import Derived.Test.YtjcmjlkihfcdcaaRef6k
import Derived.Test.YtjcmjlkihfcdcaaRef6N
import Derived.Test.YtjcmjlkihfcdcaaChkQ
namespace Go.Proofs.Ytjcmjlkihfcdcaa.syn
open Go.RowKit rclk
set_option linter.unusedVariables false
set_option linter.unusedSimpArgs false

theorem flowIx_in {p : PG} {nm : ByteArray} {q : Nat} (h : flowIx p nm = (q : Int)) (hq : q < p.ins.length) : p.ins[q].nm = nm := by
  unfold flowIx at h
  cases h1 : fstIx IN.nm nm p.ins 0 with
  | some i =>
    rw [h1] at h
    have hi : i = q := by simp only at h; omega
    obtain ⟨j, hj, x, hx, he⟩ := fstIx_some _ _ _ _ _ h1
    have : j = q := by omega
    subst this
    rw [List.getElem?_eq_getElem hq] at hx
    injection hx with hx
    rw [hx]; exact he
  | none =>
    rw [h1] at h
    cases h2 : fstIx FL.nm nm p.flows 0 with
    | some i => rw [h2] at h; simp only at h; omega
    | none => rw [h2] at h; simp only at h; omega
theorem flowIx_fl {p : PG} {nm : ByteArray} {q : Nat} (h : flowIx p nm = (p.ins.length : Int) + (q : Int)) : ∃ hq : q < p.flows.length, p.flows[q].nm = nm := by
  unfold flowIx at h
  cases h1 : fstIx IN.nm nm p.ins 0 with
  | some i =>
    rw [h1] at h
    have hi : (i : Int) = (p.ins.length : Int) + (q : Int) := h
    obtain ⟨j, hj, x, hx, he⟩ := fstIx_some _ _ _ _ _ h1
    have := (List.getElem?_eq_some_iff.1 hx).1
    omega
  | none =>
    rw [h1] at h
    cases h2 : fstIx FL.nm nm p.flows 0 with
    | some i =>
      rw [h2] at h
      have hi : i = q := by simp only at h; omega
      obtain ⟨j, hj, x, hx, he⟩ := fstIx_some _ _ _ _ _ h2
      have : j = q := by omega
      subst this
      obtain ⟨hq, hx⟩ := List.getElem?_eq_some_iff.1 hx
      exact ⟨hq, by rw [hx]; exact he⟩
    | none => rw [h2] at h; simp only at h; omega
theorem flowIx_low (p : PG) (nm : ByteArray) : -1 ≤ flowIx p nm := by
  unfold flowIx
  cases fstIx IN.nm nm p.ins 0 with
  | some i => simp only; omega
  | none => cases fstIx FL.nm nm p.flows 0 with
    | some i => simp only; omega
    | none => simp only; omega

/-- The last of these that bears the name. -/
theorem inEnv_last : ∀ (l : List IN) (e : Env) (nm : ByteArray) (c : Int × Int), (∀ x ∈ l, x.nm = nm → (x.per, x.ph) = c) → inEnv l e nm = if ∃ x ∈ l, x.nm = nm then some c else e nm := by
  intro l
  induction l with
  | nil => intro e nm c _; simp [inEnv]
  | cons x l ih =>
    intro e nm c h
    rw [inEnv, ih (upd e x.nm (x.per, x.ph)) nm c (fun y hy => h y (List.mem_cons_of_mem _ hy))]
    by_cases h1 : ∃ y ∈ l, y.nm = nm
    · rw [if_pos h1, if_pos]
      obtain ⟨y, hy, hyn⟩ := h1
      exact ⟨y, List.mem_cons_of_mem _ hy, hyn⟩
    · rw [if_neg h1]
      unfold upd
      by_cases h2 : nm = x.nm
      · rw [if_pos h2, if_pos ⟨x, List.mem_cons_self, h2.symm⟩, h x List.mem_cons_self h2.symm]
      · rw [if_neg h2, if_neg]
        rintro ⟨y, hy, hyn⟩
        rcases List.mem_cons.1 hy with rfl | hy
        · exact h2 hyn.symm
        · exact h1 ⟨y, hy, hyn⟩

/-- Which names are known when i flows are found; and as what. -/
def Kn (p : PG) (E : Env) (i : Nat) : Prop := ∀ nm, 0 ≤ flowIx p nm → (flowIx p nm < (p.ins.length : Int) + (i : Int) → ∃ c, E nm = some c) ∧ ((p.ins.length : Int) + (i : Int) ≤ flowIx p nm → E nm = none)
def AgC (p : PG) (E : Env) (C : List (Int × Int)) : Prop := ∀ nm, 0 ≤ flowIx p nm → flowIx p nm < (p.ins.length : Int) + (C.length : Int) → E nm = some (envC p C nm)

theorem env0_in {p : PG} (hN : NamesF p) (nm : ByteArray) (h0 : 0 ≤ flowIx p nm) : env0 p.ins nm = if flowIx p nm < (p.ins.length : Int) then some (envC p [] nm) else none := by
  obtain ⟨q, hq⟩ : ∃ q : Nat, flowIx p nm = (q : Int) := ⟨(flowIx p nm).toNat, by omega⟩
  unfold env0
  by_cases h : q < p.ins.length
  · have hx := flowIx_in hq h
    have hc : envC p [] nm = (p.ins[q].per, p.ins[q].ph) := by
      unfold envC
      rw [hq, Int.toNat_natCast, if_pos h, List.getElem?_eq_getElem h]; rfl
    rw [inEnv_last p.ins _ nm (p.ins[q].per, p.ins[q].ph) (by
      intro x hx' hn
      obtain ⟨j, hj, rfl⟩ := List.getElem_of_mem hx'
      have := hN.ins j hj
      rw [hn, hq] at this
      have : q = j := by omega
      subst this; rfl)]
    rw [if_pos ⟨p.ins[q], List.getElem_mem h, hx⟩, if_pos (by omega), hc]
  · rw [inEnv_last p.ins _ nm (0, 0) (by
      intro x hx' hn
      obtain ⟨j, hj, rfl⟩ := List.getElem_of_mem hx'
      have := hN.ins j hj
      rw [hn, hq] at this
      omega), if_neg, if_neg (by omega)]
    rintro ⟨x, hx', hn⟩
    obtain ⟨j, hj, rfl⟩ := List.getElem_of_mem hx'
    have := hN.ins j hj
    rw [hn, hq] at this
    omega
theorem kn0 {p : PG} (hN : NamesF p) : Kn p (env0 p.ins) 0 := by
  intro nm h0
  rw [env0_in hN nm h0]
  constructor
  · intro h; rw [if_pos (by omega)]; exact ⟨_, rfl⟩
  · intro h; rw [if_neg (by omega)]
theorem agc0 {p : PG} (hN : NamesF p) : AgC p (env0 p.ins) [] := by
  intro nm h0 h1
  rw [env0_in hN nm h0, if_pos (by simpa using h1)]

theorem fl_name {p : PG} (hN : NamesF p) {i : Nat} (hi : i < p.flows.length) {nm : ByteArray} (h : flowIx p nm = (p.ins.length : Int) + (i : Int)) : nm = p.flows[i].nm := by
  obtain ⟨hq, he⟩ := flowIx_fl h
  exact he.symm
theorem Kn.next {p : PG} (hN : NamesF p) {E : Env} {i : Nat} (hi : i < p.flows.length) (h : Kn p E i) (c : Int × Int) : Kn p (upd E p.flows[i].nm c) (i + 1) := by
  intro nm h0
  obtain ⟨h1, h2⟩ := h nm h0
  have hix := (hN.flows i hi).1
  unfold upd
  by_cases hn : nm = p.flows[i].nm
  · rw [if_pos hn]
    exact ⟨fun _ => ⟨c, rfl⟩, fun h3 => by rw [hn, hix] at h3; omega⟩
  · rw [if_neg hn]
    have hne : flowIx p nm ≠ (p.ins.length : Int) + (i : Int) := fun e => hn (fl_name hN hi e)
    exact ⟨fun h3 => h1 (by omega), fun h3 => h2 (by omega)⟩
theorem envC_snoc {p : PG} {C : List (Int × Int)} {c : Int × Int} {nm : ByteArray} (h0 : 0 ≤ flowIx p nm) (h : flowIx p nm < (p.ins.length : Int) + (C.length : Int)) : envC p (C ++ [c]) nm = envC p C nm := by
  unfold envC
  by_cases h1 : (flowIx p nm).toNat < p.ins.length
  · rw [if_pos h1, if_pos h1]
  · rw [if_neg h1, if_neg h1, List.getD_eq_getElem?_getD, List.getD_eq_getElem?_getD, List.getElem?_append_left (by omega)]
theorem AgC.next {p : PG} (hN : NamesF p) {E : Env} {C : List (Int × Int)} (hi : C.length < p.flows.length) (h : AgC p E C) (c : Int × Int) : AgC p (upd E p.flows[C.length].nm c) (C ++ [c]) := by
  intro nm h0 h1
  have hix := (hN.flows C.length hi).1
  rw [List.length_append, List.length_singleton] at h1
  unfold upd
  by_cases hn : nm = p.flows[C.length].nm
  · rw [if_pos hn]
    unfold envC
    rw [hn, hix, if_neg (by omega), show ((p.ins.length : Int) + (C.length : Int)).toNat - p.ins.length = C.length by omega]
    simp
  · rw [if_neg hn]
    have hne : flowIx p nm ≠ (p.ins.length : Int) + (C.length : Int) := fun e => hn (fl_name hN hi e)
    rw [envC_snoc h0 (by omega)]
    exact h nm h0 (by omega)

theorem agl_of {α : Type} {p : PG} {most : Int} {E E' : ByteArray → α} (hag : ∀ nm, 0 ≤ flowIx p nm → flowIx p nm < most → E nm = E' nm) : ∀ l : PL, nmL p l = true → ahL p most l = true → AgL E E' l := by
  intro l
  induction l with
  | nil => intro _ _; trivial
  | cons k nm n d args a tl ih1 ih2 =>
    intro h1 h2
    rw [nmL, Bool.and_eq_true, Bool.and_eq_true] at h1
    rw [ahL, Bool.and_eq_true, Bool.and_eq_true] at h2
    refine ⟨fun hk => ?_, ih1 h1.1.2 h2.1.2, ih2 h1.2 h2.2⟩
    have g1 := h1.1.1
    have g2 := h2.1.1
    subst hk
    exact hag nm (by simp only [nm1] at g1; simpa using g1) (by simp only [ah1] at g2; simpa using g2)
theorem knl_of {p : PG} {most : Int} {E : Env} {v : ByteArray → Int × Int} (hag : ∀ nm, 0 ≤ flowIx p nm → flowIx p nm < most → E nm = some (v nm)) : ∀ l : PL, nmL p l = true → ahL p most l = true → KnL E v l := by
  intro l
  induction l with
  | nil => intro _ _; trivial
  | cons k nm n d args a tl ih1 ih2 =>
    intro h1 h2
    rw [nmL, Bool.and_eq_true, Bool.and_eq_true] at h1
    rw [ahL, Bool.and_eq_true, Bool.and_eq_true] at h2
    refine ⟨fun hk => ?_, ih1 h1.1.2 h2.1.2, ih2 h1.2 h2.2⟩
    have g1 := h1.1.1
    have g2 := h2.1.1
    subst hk
    exact hag nm (by simp only [nm1] at g1; simpa using g1) (by simp only [ah1] at g2; simpa using g2)

/-- What the law knows of a flow: its names are known, and stand ahead; it is right. -/
structure FlF (p : PG) (i : Nat) (e : PE) : Prop where
  ok : exprOK e = true
  nm : nm1 p e.k e.nm = true ∧ nmL p e.args = true
  ah : ahE p ((p.ins.length : Int) + (i : Int)) e = true
theorem FlF.top {p : PG} {i : Nat} {e : PE} (h : FlF p i e) (hk : e.k = 1) : 0 ≤ flowIx p e.nm ∧ flowIx p e.nm < (p.ins.length : Int) + (i : Int) := by
  have g1 := h.nm.1
  have g2 := h.ah
  unfold ahE at g2
  rw [Bool.and_eq_true] at g2
  have g2 := g2.1
  rw [hk] at g1 g2
  exact ⟨by simp only [nm1] at g1; simpa using g1, by simp only [ah1] at g2; simpa using g2⟩
theorem FlF.ahl {p : PG} {i : Nat} {e : PE} (h : FlF p i e) : ahL p ((p.ins.length : Int) + (i : Int)) e.args = true := by
  have g2 := h.ah
  unfold ahE at g2
  rw [Bool.and_eq_true] at g2
  exact g2.2
/-- Of what is told of it, and of its calls, nothing changes where its names are known alike. -/
theorem FlF.cong {p : PG} {i : Nat} {e : PE} (h : FlF p i e) {E E' : Env} (hag : ∀ nm, 0 ≤ flowIx p nm → flowIx p nm < (p.ins.length : Int) + (i : Int) → E nm = E' nm) :
    tellE E e = tellE E' e ∧ (okE E e && wlL E e.args) = (okE E' e && wlL E' e.args) := by
  have ha := agl_of hag e.args h.nm.2 h.ahl
  refine ⟨tellE_cong (fun hk => hag _ (h.top hk).1 (h.top hk).2) ha, ?_⟩
  unfold okE
  rw [ckA_cong _ ha, wlL_cong _ ha]
theorem FlF.rel {p : PG} {i : Nat} {e : PE} (h : FlF p i e) {E : Env} {v : ByteArray → Int × Int} (hag : ∀ nm, 0 ≤ flowIx p nm → flowIx p nm < (p.ins.length : Int) + (i : Int) → E nm = some (v nm)) :
    (∀ a b, rclkE v e = some (a, b) ↔ (tellE E e = .ok a b ∧ okE E e = true ∧ wlL E e.args = true)) ∧ tellE E e ≠ .unk :=
  rel_expr E v e h.ok (fun hk => hag _ (h.top hk).1 (h.top hk).2) (knl_of hag e.args h.nm.2 h.ahl)
theorem FlF.told {p : PG} {i : Nat} {e : PE} (h : FlF p i e) {E : Env} (hk : Kn p E i) : tellE E e ≠ .unk :=
  (h.rel (E := E) (v := fun nm => (E nm).getD (0, 0)) (fun nm h0 h1 => by obtain ⟨c, hc⟩ := (hk nm h0).1 h1; rw [hc]; rfl)).2

def AllF (p : PG) : Prop := ∀ i (h : i < p.flows.length), FlF p i p.flows[i].e
theorem nu_drop {p : PG} (hN : NamesF p) (hA : AllF p) : ∀ (m i : Nat) (E : Env), i + m = p.flows.length → Kn p E i → NU E (p.flows.drop i) := by
  intro m
  induction m with
  | zero => intro i E hi _; rw [List.drop_of_length_le (by omega)]; trivial
  | succ m ih =>
    intro i E hi hk
    have hlt : i < p.flows.length := by omega
    rw [drop_fl hlt]
    unfold NU
    refine ⟨(hk _ (by rw [(hN.flows i hlt).1]; omega)).2 (by rw [(hN.flows i hlt).1]; omega), ?_⟩
    have ht := (hA i hlt).told hk
    cases hte : tellE E p.flows[i].e with
    | unk => exact (ht hte).elim
    | bad a b => trivial
    | ok a b => exact ih (i + 1) _ (by omega) (hk.next hN hlt (a, b))
theorem kn_keep {p : PG} {E E' : Env} {i : Nat} {fs : List FL} (hk : Kn p E i) (hnu : NU E fs) (hf : findP E fs = some E') : ∀ nm, 0 ≤ flowIx p nm → flowIx p nm < (p.ins.length : Int) + (i : Int) → E nm = E' nm := by
  intro nm h0 h1
  obtain ⟨c, hc⟩ := (hk nm h0).1 h1
  rw [hc, findP_keeps fs E E' nm c hnu hf hc]

/-- What is found is what is told, in the end too. -/
theorem found_told {p : PG} (hN : NamesF p) (hA : AllF p) : ∀ (m i : Nat) (E E' : Env), i + m = p.flows.length → Kn p E i → findP E (p.flows.drop i) = some E' → ∀ j (hj : j < p.flows.length), i ≤ j → ∃ a b, tellE E' p.flows[j].e = .ok a b ∧ E' p.flows[j].nm = some (a, b) := by
  intro m
  induction m with
  | zero => intro i E E' hi _ _ j hj hij; omega
  | succ m ih =>
    intro i E E' hi hk hf j hj hij
    have hlt : i < p.flows.length := by omega
    have hnu := nu_drop hN hA (m + 1) i E hi hk
    have hkp := kn_keep hk hnu hf
    rw [drop_fl hlt, findP_cons] at hf
    cases hte : tellE E p.flows[i].e with
    | unk => rw [hte] at hf; cases hf
    | bad a b => rw [hte] at hf; cases hf
    | ok a b =>
      rw [hte] at hf
      simp only at hf
      have hk' := hk.next hN hlt (a, b)
      by_cases he : j = i
      · subst he
        refine ⟨a, b, by rw [← ((hA j hlt).cong hkp).1]; exact hte, ?_⟩
        exact findP_keeps _ _ _ _ _ (nu_drop hN hA m (j + 1) _ (by omega) hk') hf (by unfold upd; rw [if_pos rfl])
      · exact ih (i + 1) _ E' (by omega) hk' hf j hj (by omega)

/-- The law's clocks, one by one. -/
def Good (p : PG) (C : List (Int × Int)) : Prop := C.length ≤ p.flows.length ∧ ∀ i (h : i < C.length) (hf : i < p.flows.length), rclkE (envC p (C.take i)) p.flows[i].e = some C[i]
theorem Good.nil (p : PG) : Good p [] := ⟨Nat.zero_le _, fun i h => absurd h (by simp)⟩
theorem Good.snoc {p : PG} {C : List (Int × Int)} (h : Good p C) (hi : C.length < p.flows.length) {c : Int × Int} (hc : rclkE (envC p C) p.flows[C.length].e = some c) : Good p (C ++ [c]) := by
  refine ⟨by rw [List.length_append, List.length_singleton]; exact hi, fun i hl hf => ?_⟩
  rw [List.length_append, List.length_singleton] at hl
  by_cases he : i < C.length
  · rw [List.take_append_of_le_length (by omega), List.getElem_append_left he]
    exact h.2 i he hf
  · have hie : i = C.length := by omega
    subst hie
    rw [List.take_append_of_le_length (Nat.le_refl _), List.take_length, List.getElem_append_right (Nat.le_refl _)]
    simpa using hc
theorem Good.front {p : PG} {C : List (Int × Int)} {c : Int × Int} (h : Good p (C ++ [c])) : Good p C ∧ C.length < p.flows.length ∧ ∀ hl : C.length < p.flows.length, rclkE (envC p C) p.flows[C.length].e = some c := by
  obtain ⟨h1, h2⟩ := h
  rw [List.length_append, List.length_singleton] at h1
  refine ⟨⟨by omega, fun i hi hf => ?_⟩, h1, fun hl => ?_⟩
  · have := h2 i (by rw [List.length_append, List.length_singleton]; omega) hf
    rw [List.take_append_of_le_length (by omega), List.getElem_append_left hi] at this
    exact this
  · have := h2 C.length (by simp) hl
    rw [List.take_append_of_le_length (Nat.le_refl _), List.take_length, List.getElem_append_right (Nat.le_refl _)] at this
    simpa using this

theorem good_find {p : PG} (hN : NamesF p) (hA : AllF p) : ∀ (m : Nat) (C : List (Int × Int)), C.length = m → Good p C → ∃ E, findP (env0 p.ins) p.flows = findP E (p.flows.drop C.length) ∧ AgC p E C ∧ Kn p E C.length ∧
    ∀ j (hj : j < p.flows.length), j < C.length → (okE E p.flows[j].e && wlL E p.flows[j].e.args) = true := by
  intro m
  induction m with
  | zero =>
    intro C hm hg
    obtain rfl : C = [] := List.length_eq_zero_iff.1 hm
    exact ⟨env0 p.ins, by simp, agc0 hN, kn0 hN, fun j _ h => absurd h (by simp)⟩
  | succ m ih =>
    intro C hm hg
    obtain ⟨C, c, rfl⟩ : ∃ C' c, C = C' ++ [c] := ⟨C.dropLast, C.getLast (by intro e; rw [e] at hm; simp at hm), (List.dropLast_concat_getLast _).symm⟩
    rw [List.length_append, List.length_singleton] at hm
    obtain ⟨hg', hlt, hc⟩ := hg.front
    obtain ⟨E, h1, h2, h3, h4⟩ := ih C (by omega) hg'
    have hc := hc hlt
    obtain ⟨a, b⟩ := c
    obtain ⟨ht, ho, hw⟩ := (((hA C.length hlt).rel (E := E) (v := envC p C) h2).1 a b).1 hc
    have hag : ∀ nm, 0 ≤ flowIx p nm → flowIx p nm < (p.ins.length : Int) + (C.length : Int) → E nm = upd E p.flows[C.length].nm (a, b) nm := by
      intro nm h0 h5
      unfold upd
      rw [if_neg]
      intro e
      rw [e, (hN.flows C.length hlt).1] at h5
      omega
    refine ⟨upd E p.flows[C.length].nm (a, b), ?_, h2.next hN hlt (a, b), ?_, fun j hj hjl => ?_⟩
    · rw [h1, drop_fl hlt, findP_cons, ht, List.length_append, List.length_singleton]
    · rw [List.length_append, List.length_singleton]; exact h3.next hN hlt (a, b)
    · rw [List.length_append, List.length_singleton] at hjl
      rw [← ((hA j hj).cong (fun nm h0 h5 => hag nm h0 (by omega))).2]
      by_cases he : j < C.length
      · exact h4 j hj he
      · have hje : j = C.length := by omega
        subst hje
        rw [ho, hw]; rfl

/-- All have a clock: these are found, and all calls are well. -/
theorem good_all {p : PG} (hN : NamesF p) (hA : AllF p) {C : List (Int × Int)} (hg : Good p C) (hl : C.length = p.flows.length) :
    ∃ E, findP (env0 p.ins) p.flows = some E ∧ callsOK E p.flows = true ∧ p.flows.map (fun f => clkAt E f.nm) = C := by
  obtain ⟨E, h1, h2, h3, h4⟩ := good_find hN hA _ C rfl hg
  rw [List.drop_of_length_le (by omega)] at h1
  refine ⟨E, h1, ?_, ?_⟩
  · rw [callsOK_each, List.all_eq_true]
    intro f hf
    obtain ⟨j, hj, rfl⟩ := List.getElem_of_mem hf
    exact h4 j hj (by omega)
  · refine List.ext_getElem (by simpa using hl.symm) fun j hj1 hj2 => ?_
    have hj : j < p.flows.length := by simpa using hj1
    rw [List.getElem_map]
    unfold clkAt
    have hix := (hN.flows j hj).1
    rw [h2 _ (by rw [hix]; omega) (by rw [hix]; omega)]
    unfold envC
    rw [hix, if_neg (by omega), show ((p.ins.length : Int) + (j : Int)).toNat - p.ins.length = j by omega]
    simp [List.getD_eq_getElem?_getD, List.getElem?_eq_getElem hj2]
/-- One has none: nothing is found, or a call is not well. -/
theorem good_none {p : PG} (hN : NamesF p) (hA : AllF p) {C : List (Int × Int)} (hg : Good p C) (hl : C.length < p.flows.length) (hno : rclkE (envC p C) p.flows[C.length].e = none) :
    ∀ E, findP (env0 p.ins) p.flows = some E → callsOK E p.flows = false := by
  intro E' hf
  obtain ⟨E, h1, h2, h3, h4⟩ := good_find hN hA _ C rfl hg
  rw [h1] at hf
  have hnu := nu_drop hN hA (p.flows.length - C.length) C.length E (by omega) h3
  have hkp := kn_keep h3 hnu hf
  have hrel := (hA C.length hl).rel (E := E) (v := envC p C) h2
  rw [drop_fl hl, findP_cons] at hf
  cases hte : tellE E p.flows[C.length].e with
  | unk => exact (hrel.2 hte).elim
  | bad a b => rw [hte] at hf; cases hf
  | ok a b =>
    have hbad : (okE E p.flows[C.length].e && wlL E p.flows[C.length].e.args) = false := by
      cases hb : (okE E p.flows[C.length].e && wlL E p.flows[C.length].e.args) with
      | false => rfl
      | true =>
        rw [Bool.and_eq_true] at hb
        have := (hrel.1 a b).2 ⟨hte, hb.1, hb.2⟩
        rw [hno] at this; cases this
    rw [((hA C.length hl).cong hkp).2] at hbad
    rw [callsOK_each, List.all_eq_false]
    exact ⟨p.flows[C.length], List.getElem_mem hl, by rw [hbad]; decide⟩
theorem hh_all {p : PG} (hN : NamesF p) (hA : AllF p) : ∀ env, findP (env0 p.ins) p.flows = some env → callsOK env p.flows = true → ∀ f ∈ p.flows, ∃ a b, tellE env f.e = .ok a b ∧ env f.nm = some (a, b) := by
  intro env hf _ f hm
  obtain ⟨j, hj, rfl⟩ := List.getElem_of_mem hm
  exact found_told hN hA p.flows.length 0 (env0 p.ins) env (by omega) (kn0 hN) (by simpa using hf) j hj (Nat.zero_le _)
theorem nu_all {p : PG} (hN : NamesF p) (hA : AllF p) : NU (env0 p.ins) p.flows := by
  have := nu_drop hN hA p.flows.length 0 (env0 p.ins) (by omega) (kn0 hN)
  simpa using this
end Go.Proofs.Ytjcmjlkihfcdcaa.syn
