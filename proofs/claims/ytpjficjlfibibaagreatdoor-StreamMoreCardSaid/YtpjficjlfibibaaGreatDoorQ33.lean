/-
  Parts of the proof: Str7, Str8.
-/
import Derived.Test.YtpjficjlfibibaaGreatDoorQ32
import Derived.Test.YtpjficjlfibibaaGreatDoorQ29
import Derived.Test.YtpjficjlfibibaaGreatDoorQ12
namespace Go.Proofs.YtpjficjlfibibaaGreatDoor.syn
open Go.RowKit
set_option linter.unusedVariables false
set_option linter.unusedSimpArgs false
theorem ofLoop_in {T:Nat}:∀ (n:Nat) (s:WS) (l:List Int),WOk T s → (∀ x ∈ l,0 ≤ x ∧ x < (T:Int)) → (∀ x ∈ ofLoop n s l,0 ≤ x ∧ x < (T:Int)) ∧ (ofLoop n s l).length ≤ l.length + n:=by
 intro n
 induction n with
 | zero => intro s l _ h;exact ⟨h,Nat.le_refl _⟩
 | succ n ih =>
  intro s l hs h
  rw [ofLoop]
  split
  ·exact ⟨h,by omega⟩
  ·rename_i hq
   obtain ⟨h1,h2⟩:=hs.next hq
   obtain ⟨h3,h4⟩:=ih _ (l ++ [(ordNext s).1]) h2 (fun x hx => by
    rcases List.mem_append.1 hx with hx | hx
    ·exact h x hx
    ·rw [List.mem_singleton.1 hx];exact h1)
   refine ⟨h3,?_⟩
   rw [List.length_append,List.length_cons,List.length_nil] at h4
   omega
theorem ofP_in {f:FD} {l:List Int} (h:ofP f = some l):(∀ x ∈ l,0 ≤ x ∧ x < (f.tasks.length:Int)) ∧ l.length ≤ 2 * f.tasks.length:=by
 unfold ofP at h
 split at h
 ·cases h
 ·cases h
  rw [newP_newN]
  obtain ⟨h1,h2⟩:=ofLoop_in (muW (newN f f.tasks.length)) _ [] (newN_ok f f.tasks.length (Nat.le_refl _)) (fun x hx => by cases hx)
  refine ⟨h1,?_⟩
  have h3:=newN_qlen f f.tasks.length
  have h4:=(newN_ok f f.tasks.length (Nat.le_refl _)).many
  have h5:=List.countP_le_length (p:=fun x:Int => decide (0 < x)) (l:=(newN f f.tasks.length).many)
  have h6:muW (newN f f.tasks.length) ≤ 2 * f.tasks.length:=by unfold muW;omega
  have h7:([]:List Int).length = 0:=rfl
  omega
theorem qv_rowN {w:World} {B:Nat} {a:Option Addr} {c n:Nat} {l:List Int} (h:QV w B (.slice a n c) l) (hp:∀ x ∈ l,0 ≤ x):n = l.length ∧ RowL w (fun t:Nat => Value.int .i64 (t:Int)) a (l.map Int.toNat):=by
 have h2:w.ownsRow B 3 1 (.slice a n c) l.length (ints l):=h
 rcases h2.2 with ⟨e,hn⟩ | ⟨g,cap,cur,e,hb,hg,_⟩
 ·cases e
  rw [List.eq_nil_of_length_eq_zero hn]
  exact ⟨rfl,.inl rfl⟩
 ·injection e with e1 e2 e3
  subst e1
  subst e2
  subst e3
  refine ⟨rfl,.inr ⟨g,0,rfl,lt_of_block hg,fun i x hx => ?_⟩⟩
  rw [Nat.zero_add]
  rw [List.getElem?_map,Option.map_eq_some_iff] at hx
  obtain ⟨y,hy,rfl⟩:=hx
  refine (World.ownsRow.cellAt h2 i (by rw [Nat.mul_one];exact (List.getElem?_eq_some_iff.1 hy).1)).trans ?_
  have h0:=hp y (List.mem_of_getElem? hy)
  have e:((y.toNat:Nat):Int) = y:=by omega
  show _ = some (Value.int .i64 ((y.toNat:Nat):Int))
  rw [e]
  simp [ints,hy]
theorem infoSl64:(Tryz.prog.info? 42).map (fun i => (i.zero,i.size,i.bytes)) = some (some (.slice none 0 0),1,24):=by kernel_rfl
theorem mayAsk_any (u:Int) (w:World):Calls Tryz.prog 25 #[.int .i64 u] w fun x w' => x = .returned (.bool (decide (0 ≤ u ∧ u ≤ 20000))) ∧ w' = w:=by
 by_cases h0:0 ≤ u
 ·by_cases h1:u ≤ 20000
  ·rw [decide_eq_true (show 0 ≤ u ∧ u ≤ 20000 from ⟨h0,h1⟩)]
   go_enter Tryz.func25,Tryz.ntmps25
   go_wp2
   go_ret
   exact ⟨rfl,rfl⟩
  ·rw [decide_eq_false (show ¬ (0 ≤ u ∧ u ≤ 20000) from fun h => h1 h.2)]
   go_enter Tryz.func25,Tryz.ntmps25
   go_wp2
   go_ret
   exact ⟨rfl,rfl⟩
 ·rw [decide_eq_false (show ¬ (0 ≤ u ∧ u ≤ 20000) from fun h => h0 h.1)]
  go_enter Tryz.func25,Tryz.ntmps25
  go_wp2
  go_ret
  exact ⟨rfl,rfl⟩
theorem reckV_succ (ni:Nat) (inl:List (List Int)) (nds:List NE) (tks:List TD) (order:List Nat) (n:Nat):reckV ni inl nds tks order (n + 1) = stepV ni inl nds tks order (n:Int) (reckV ni inl nds tks order n):=by
 unfold reckV
 rw [List.range_succ,List.foldl_append]
 rfl
theorem Bv.step {ni:Nat} {inl:List (List Int)} {m':Nat} (h1:Bv m' inl) {nds:List NE} {tks:List TD} (hn:Nums tks) (ho:∀ n ∈ nds,n.ok) (date:Int):∀ (order:List Nat) (m:Nat) (vals:List (List Int)),Bv m vals → Bv (m + order.length) (stepV ni inl nds tks order date vals)
 | [],m,vals,h => h
 | t :: order,m,vals,h => by
  have:=Bv.step (ni:=ni) h1 hn ho date order (m + 1) _ (Bv.turn h1 h hn ho date t (ni:=ni))
  rw [List.length_cons,show m + (order.length + 1) = m + 1 + order.length by omega]
  exact this
def BxS (b:Nat) (v0 v1 v2 v3:Value) (w':World):Prop:=w'.cell? ⟨b,0,none⟩ = some v0 ∧ w'.cell? ⟨b,1,none⟩ = some v1 ∧ w'.cell? ⟨b,2,none⟩ = some v2 ∧ w'.cell? ⟨b,3,none⟩ = some v3
structure StrP (w:World) (f:FD) (an:Option Addr) (nds:List NE):Prop where
 row:Row NdE 10 w nds an
 len:nds.length = f.nods.length
 ok:∀ n ∈ nds,n.ok
 nums:Nums f.tasks
theorem StrP.below {w w':World} {f:FD} {an:Option Addr} {nds:List NE} (h:StrP w f an nds) (hb:Below w.heap.size w w'):StrP w' f an nds:=⟨h.row.below ndeSta hb,h.len,h.ok,h.nums⟩
theorem right_tsk {f:FD} (h:rightP f = true) {nds:List NE} (hl:nds.length = f.nods.length) (ha:∀ t ∈ f.tasks,t.args.length ≤ 1000):TskOK f.ins.length nds f.tasks:=by
 unfold rightP at h
 simp only [Bool.and_eq_true,List.all_eq_true,decide_eq_true_eq] at h
 obtain ⟨_,_,h3,_,h5⟩:=h
 have key:∀ d ∈ f.tasks,(∃ k:Nat,d.node = (k:Int) ∧ k < nds.length) ∧ ∀ a ∈ d.args,(srcP f a.src).isSome = true ∧ a.ops.length ≤ 20:=by
  intro d hd
  have h6:=h3 d hd
  by_cases hk:d.node < 0 ∨ (f.nods.length:Int) ≤ d.node
  ·rw [task_none hk] at h6;cases h6
  ·have h7:d.node.toNat < f.nods.length:=by omega
   have h8:d.node = (d.node.toNat:Int):=by omega
   rw [task_some h7 h8] at h6
   simp only [Bool.and_eq_true,List.all_eq_true,decide_eq_true_eq] at h6
   refine ⟨⟨d.node.toNat,h8,by omega⟩,fun a ha => ?_⟩
   have h9:=h6.2.2 a ha
   unfold fitsP at h9
   cases hs:srcP f a.src with
   | none => rw [hs] at h9;cases h9
   | some s =>
    rw [hs] at h9
    simp only [Bool.and_eq_true,decide_eq_true_eq] at h9
    exact ⟨rfl,h9.1⟩
 refine ⟨by omega,fun d hd => (key d hd).1,fun d hd => ⟨ha d hd,fun a ha => ?_⟩⟩
 obtain ⟨h1,h2⟩:=(key d hd).2 a ha
 refine ⟨?_,?_,by omega⟩
 ·by_cases h0:a.src < 0
  ·rw [src_neg h0] at h1;cases h1
  ·omega
 ·by_cases h0:a.src < 0
  ·rw [src_neg h0] at h1;cases h1
  ·by_cases h4:a.src < (f.ins.length:Int)
   ·omega
   ·have:=src_some h1 oq
    omega
theorem right_few {f:FD} (h:rightP f = true):f.tasks.length ≤ 30:=by
 unfold rightP at h
 simp only [Bool.and_eq_true,List.all_eq_true,decide_eq_true_eq] at h
 exact h.2.2.2.2
def RckYes (w:World) (f:FD) (nds:List NE) (ain:Option Addr) (inl:List (List Int)) (l:List Int) (U:Nat) (x:Ending) (w':World):Prop :=
 ∃ wI W0 mb vb ai an aT ci cn ct cin cv vs,x = .returned (.tuple #[.pointer (some ⟨mb,0,none⟩),.int .i64 0]) ∧ Below w.heap.size w wI ∧ StM wI W0 w' mb vb ai an aT f.ins.length ci cn f.nods.length f.tasks ct ain inl cin cv vs (reckV f.ins.length inl nds f.tasks (l.map Int.toNat) U) ∧ Bv 2000000 (reckV f.ins.length inl nds f.tasks (l.map Int.toNat) U)
def RckAns (w:World) (f:FD) (nds:List NE) (ain:Option Addr) (inl:List (List Int)) (u:Int) (x:Ending) (w':World):Prop :=
 if rightP f = true ∧ (0 ≤ u ∧ u ≤ 20000) then match ofP f with
  | none => x = .returned (.tuple #[.pointer none,.int .i64 6])
  | some l => RckYes w f nds ain inl l u.toNat x w'
 else x = .returned (.tuple #[.pointer none,.int .i64 12])
set_option maxRecDepth 100000 in
set_option maxHeartbeats 8000000 in
theorem mreckon_any {w:World} (f:FD) (ai an aT al:Option Addr) (ci cn ct cl:Nat) (hf:FAP w f ai an aT al) (nds:List NE) (hn:StrP w f an nds) (inl:List (List Int)) (ain:Option Addr) (cin:Nat) (hin:RowLL w ain inl) {m':Nat} (hbi:Bv m' inl) (u:Int) :
  Calls Tryz.prog 19 #[fv f ai an aT al ci cn ct cl,.slice ain inl.length cin,.int .i64 u] w fun x w' => RckAns w f nds ain inl u x w' ∧ Below w.heap.size w w':=by
 have HRI:=hid (fun W (hb:Below w.heap.size w W) => flatRight_any (w:=W) f ai an aT al ci cn ct cl (hf.below hb))
 have HOF:=hid (fun W (hb:Below w.heap.size w W) => of_any (w:=W) f ai an aT al ci cn ct cl (hf.below hb))
 have HAK:=hid (fun W => mayAsk_any u W)
 have HF:=hid hf
 have HN:=hid hn
 have HIN:=hid (And.intro hin hbi)
 clear hf hn hin hbi
 unfold RckAns
 unfold fv at *
 obtain ⟨ri,hri⟩:∃ ri,rightP f = ri:=⟨_,rfl⟩
 obtain ⟨ak,hak⟩:∃ ak,decide (0 ≤ u ∧ u ≤ 20000) = ak:=⟨_,rfl⟩
 rw [hri] at HRI
 rw [hak] at HAK
 obtain ⟨W1,hW1⟩:∃ W1,w.alloc (.cells #[.slice ai f.ins.length ci,.slice an f.nods.length cn,.slice aT f.tasks.length ct,.slice al f.tells.length cl] 36) = W1:=⟨_,rfl⟩
 have hB:Below w.heap.size w W1:=by rw [← hW1];exact bq
 have hq0:W1.heap[w.heap.size]? = some (.cells #[.slice ai f.ins.length ci,.slice an f.nods.length cn,.slice aT f.tasks.length ct,.slice al f.tells.length cl] 36 (0,0)):=by rw [← hW1];exact heap_new w _
 have hs1:W1.heap.size = w.heap.size + 1:=by rw [← hW1];simp
 have HB:=hid hB
 have HQ0:=hid hq0
 obtain ⟨⟨x0,x1,x2,x3⟩,xf⟩:=cells4 hq0
 have hl0:w.heap.size < W1.heap.size:=by omega
 clear hB hq0
 cases ri with
 | false =>
  have hcc:¬ (rightP f = true ∧ (0 ≤ u ∧ u ≤ 20000)):=fun h => by rw [hri] at h;cases h.1
  simp only [if_neg hcc]
  go_enter Tryz.func19,Tryz.ntmps19
  go_upto_region 1 with fail
  first | rw [hW1] | skip
  clear hW1
  go_wp2_with (go_at_call 27;refine (HRI.out _ HB.out).mono ?_;rintro x w2 ⟨rfl,hb2⟩;have HB2:=hid hb2;clear hb2)
  go_ret2
  exact ⟨rfl,HB.out.trans (HB2.out.mono oq)⟩
 | true =>
  cases ak with
  | false =>
   have hcc:¬ (rightP f = true ∧ (0 ≤ u ∧ u ≤ 20000)):=fun h => by have:=decide_eq_true h.2;rw [hak] at this;cases this
   simp only [if_neg hcc]
   go_enter Tryz.func19,Tryz.ntmps19
   go_upto_region 1 with fail
   first | rw [hW1] | skip
   clear hW1
   go_wp2_with (first | (go_at_call 27;refine (HRI.out _ HB.out).mono ?_;rintro x w2 ⟨rfl,hb2⟩;have HB2:=hid hb2;clear hb2) | (go_at_call 25;refine (HAK.out _).mono ?_;rintro x w3 ⟨rfl,rfl⟩))
   go_ret2
   exact ⟨rfl,HB.out.trans (HB2.out.mono oq)⟩
  | true =>
   have hu:=of_decide_eq_true hak
   have hcc:rightP f = true ∧ (0 ≤ u ∧ u ≤ 20000):=⟨hri,hu⟩
   simp only [if_pos hcc]
   clear hcc
   cases ho:ofP f with
   | none =>
    rw [ho] at HOF
    simp only [OfAns] at HOF
    simp only
    go_enter Tryz.func19,Tryz.ntmps19
    go_upto_region 1 with fail
    first | rw [hW1] | skip
    clear hW1
    go_wp2_with (first | (go_at_call 27;refine (HRI.out _ HB.out).mono ?_;rintro x w2 ⟨rfl,hb2⟩;have HB2:=hid (HB.out.trans (hb2.mono oq));obtain ⟨⟨y0,y1,y2,y3⟩,yf⟩:=cells4 ((hb2.block _ hl0).trans HQ0.out);clear hb2) | (go_at_call 25;refine (HAK.out _).mono ?_;rintro x w3 ⟨rfl,rfl⟩) | (go_at_call 28;refine (HOF.out _ HB2.out).mono ?_;rintro x w4 ⟨rfl,hb4⟩;have HB4:=hid (HB2.out.trans (hb4.mono HB2.out.size));clear hb4))
    go_ret2
    exact ⟨rfl,HB4.out⟩
   | some l =>
    rw [ho] at HOF
    simp only [OfAns] at HOF
    simp only
    obtain ⟨U,rfl⟩:∃ U:Nat,u = (U:Int):=⟨u.toNat,by omega⟩
    simp only [Int.toNat_natCast]
    have hU:U ≤ 20000:=by omega
    obtain ⟨hlr,hll⟩:=ofP_in ho
    have hT30:=right_few hri
    have HTO:=hid (right_tsk hri HN.out.len (fun t ht => (HF.out.args t ht).1))
    have hmk:=fun W => run_make_row' (P:=Tryz.prog) 28 42 (.slice none 0 0) 24 Tryz.underlying28 infoSl64 rfl .i64 .i64 f.tasks.length oq oq W
    have HLR:=hid hlr
    clear hri hak ho hlr
    go_enter Tryz.func19,Tryz.ntmps19
    go_upto_region 1 with fail
    first | rw [hW1] | skip
    clear hW1
    go_upto_region 6 with (first | (go_at_call 27;refine (HRI.out _ HB.out).mono ?_;rintro x w2 ⟨rfl,hb2⟩;have HB2:=hid (HB.out.trans (hb2.mono oq));have hs2:=hb2.size;have HQ2:=hid ((hb2.block _ hl0).trans HQ0.out);obtain ⟨⟨y0,y1,y2,y3⟩,yf⟩:=cells4 HQ2.out;clear hb2) | (go_at_call 25;refine (HAK.out _).mono ?_;rintro x w3 ⟨rfl,rfl⟩) | (go_at_call 28;refine (HOF.out _ HB2.out).mono ?_;rintro x w4 ⟨⟨v4,rfl,hq4⟩,hb4⟩;have HB4:=hid (HB2.out.trans (hb4.mono HB2.out.size));have hs4:=hb4.size;obtain ⟨a4,c4,rfl⟩:=ownR_form hq4;have HO4:=hid (qv_rowN hq4 (fun x hx => (HLR.out x hx).1)).2;obtain ⟨⟨z0,z1,z2,z3⟩,zf⟩:=cells4 ((hb4.block _ oq).trans HQ2.out);clear hb4 hq4))
    clear x0 x1 x2 x3 xf y0 y1 y2 y3 yf HRI HOF HAK HQ0 HQ2 zf
    have d0:w4.drew.cell? ⟨w.heap.size,0,none⟩ = _:=z0
    have d1:w4.drew.cell? ⟨w.heap.size,1,none⟩ = _:=z1
    have d2:w4.drew.cell? ⟨w.heap.size,2,none⟩ = _:=z2
    have d3:w4.drew.cell? ⟨w.heap.size,3,none⟩ = _:=z3
    have hlw:w.heap.size < w4.heap.size:=by omega
    have KS:=hid (fun (w':World) (h:w'.heap[w.heap.size]? = w4.heap[w.heap.size]?) => (show BxS w.heap.size (.slice ai f.ins.length ci) (.slice an f.nods.length cn) (.slice aT f.tasks.length ct) (.slice al f.tells.length cl) w' from ⟨(World.cell?_of_block (w:=w4) (a:=⟨w.heap.size,0,none⟩) h).trans z0,(World.cell?_of_block (w:=w4) (a:=⟨w.heap.size,1,none⟩) h).trans z1,(World.cell?_of_block (w:=w4) (a:=⟨w.heap.size,2,none⟩) h).trans z2,(World.cell?_of_block (w:=w4) (a:=⟨w.heap.size,3,none⟩) h).trans z3⟩))
    clear z0 z1 z2 z3
    refine wp_region_held_drew (S:=BxS w.heap.size (.slice ai f.ins.length ci) (.slice an f.nods.length cn) (.slice aT f.tasks.length ct) (.slice al f.tells.length cl)) (by kernel_rfl) (by first | exact KS.out _ rfl | exact KS.out _ (Below.heap_alloc w4.drew _ _ hlw) | exact KS.out _ ((Below.heap_alloc _ _ _ (by simp;omega)).trans (Below.heap_alloc w4.drew _ _ hlw))) (fun hHeld => ?_)
    refine tk 0 (oi:=?a1) (v:=?b1) ?c1 ?e1 ?f1 hHeld ?r1 ?d1
    case c1=>(simp only [tA,tB,tC];rfl)
    case d1=>exact fun _ _ _ h=>h
    case e1=>rfl
    case f1=>(intro w hSw;(obtain ⟨s0,s1,s2,s3⟩:=hSw);go_simp;try with_reducible rfl)
    try simp only [Act.put,sA,sB,sC]
    refine tk 1 (oi:=?a2) (v:=?b2) ?c2 ?e2 ?f2 hHeld ?r2 ?d2
    case c2=>(simp only [tA,tB,tC];rfl)
    case d2=>exact fun _ _ _ h=>h
    case e2=>rfl
    case f2=>(intro w hSw;(obtain ⟨s0,s1,s2,s3⟩:=hSw);go_simp;try with_reducible rfl)
    try simp only [Act.put,sA,sB,sC]
    refine tk 2 (oi:=?a3) (v:=?b3) ?c3 ?e3 ?f3 hHeld ?r3 ?d3
    case c3=>(simp only [tA,tB,tC];rfl)
    case d3=>exact fun _ _ _ h=>h
    case e3=>rfl
    case f3=>(intro w hSw;(obtain ⟨s0,s1,s2,s3⟩:=hSw);go_simp;try with_reducible rfl)
    try simp only [Act.put,sA,sB,sC]
    refine tk 3 (oi:=?a4) (v:=?b4) ?c4 ?e4 ?f4 hHeld ?r4 ?d4
    case c4=>(simp only [tA,tB,tC];rfl)
    case d4=>exact fun _ _ _ h=>h
    case e4=>rfl
    case f4=>(intro w hSw;(obtain ⟨s0,s1,s2,s3⟩:=hSw);go_simp;try with_reducible rfl)
    try simp only [Act.put,sA,sB,sC]
    refine tk 4 (oi:=?a5) (v:=?b5) ?c5 ?e5 ?f5 hHeld ?r5 ?d5
    case c5=>(simp only [tA,tB,tC];rfl)
    case d5=>exact fun _ _ _ h=>h
    case e5=>rfl
    case f5=>(intro w hSw;(obtain ⟨s0,s1,s2,s3⟩:=hSw);go_simp;try with_reducible rfl)
    try simp only [Act.put,sA,sB,sC]
    refine wpAnyH_ready (rs:=[5]) (by kernel_rfl) (by simp) ?_
    refine AllReadyH.cons (o:=?o6) ?hi6 (fun K hK => ?_) AllReadyH.nil
    case hi6 => (simp only [tA,tB,tC];rfl)
    go_simp
    refine hK.out _ _ (by first | exact KS.out _ rfl | exact KS.out _ (Below.heap_alloc w4.drew _ _ hlw) | exact KS.out _ ((Below.heap_alloc _ _ _ (by simp;omega)).trans (Below.heap_alloc w4.drew _ _ hlw))) (fun hHeld => ?_)
    clear hK K
    try simp only [Act.put,sA,sB,sC]
    refine tk 6 (oi:=?a7) (v:=?b7) ?c7 ?e7 ?f7 hHeld ?r7 ?d7
    case c7=>(simp only [tA,tB,tC];rfl)
    case d7=>exact fun _ _ _ h=>h
    case e7=>rfl
    case f7=>(intro w hSw;(obtain ⟨s0,s1,s2,s3⟩:=hSw);go_simp;try with_reducible rfl)
    try simp only [Act.put,sA,sB,sC]
    refine wpAnyH_ready (rs:=[7]) (by kernel_rfl) (by simp) ?_
    refine AllReadyH.cons (o:=?o8) ?hi8 (fun K hK => ?_) AllReadyH.nil
    case hi8 => (simp only [tA,tB,tC];rfl)
    go_simp
    refine hK.out _ _ (by first | exact KS.out _ rfl | exact KS.out _ (Below.heap_alloc w4.drew _ _ hlw) | exact KS.out _ ((Below.heap_alloc _ _ _ (by simp;omega)).trans (Below.heap_alloc w4.drew _ _ hlw))) (fun hHeld => ?_)
    clear hK K
    try simp only [Act.put,sA,sB,sC]
    refine tk 8 (oi:=?a9) (v:=?b9) ?c9 ?e9 ?f9 hHeld ?r9 ?d9
    case c9=>(simp only [tA,tB,tC];rfl)
    case d9=>exact fun _ _ _ h=>h
    case e9=>rfl
    case f9=>(intro w hSw;(obtain ⟨s0,s1,s2,s3⟩:=hSw);go_simp;try with_reducible rfl)
    try simp only [Act.put,sA,sB,sC]
    refine wpAnyH_done (by kernel_rfl) ?_ _
    obtain ⟨X,hX⟩:∃ X,(w4.alloc (.cells (madeCells #[.slice none 0 0] f.tasks.length) 42)).alloc (.cells #[.slice ai f.ins.length ci,.slice an f.nods.length cn,.slice aT f.tasks.length ct,.slice al f.tells.length cl,.slice ain inl.length cin,.slice (some ⟨w4.heap.size,0,none⟩) f.tasks.length f.tasks.length] 70) = X:=⟨_,rfl⟩
    rw [hX]
    obtain ⟨W0,hW0⟩:∃ W0,X.drew = W0:=⟨_,rfl⟩
    have HST:=hid (show StM w4 W0 W0 (w4.heap.size + 1) w4.heap.size ai an aT f.ins.length ci cn f.nods.length f.tasks ct ain inl cin f.tasks.length (List.replicate f.tasks.length (.slice none 0 0)) (reckV f.ins.length inl nds f.tasks (l.map Int.toNat) 0) from by
     have e0:reckV f.ins.length inl nds f.tasks (l.map Int.toNat) 0 = List.replicate f.tasks.length []:=rfl
     have hr1:W0.heap[w4.heap.size + 1]? = some (.cells #[.slice ai f.ins.length ci,.slice an f.nods.length cn,.slice aT f.tasks.length ct,.slice al f.tells.length cl,.slice ain inl.length cin,.slice (some ⟨w4.heap.size,0,none⟩) f.tasks.length f.tasks.length] 70 (0,0)):=by
      rw [← hW0]
      show X.heap[w4.heap.size + 1]? = _
      rw [← hX]
      have h:=heap_new (w4.alloc (.cells (madeCells #[.slice none 0 0] f.tasks.length) 42)) (.cells #[.slice ai f.ins.length ci,.slice an f.nods.length cn,.slice aT f.tasks.length ct,.slice al f.tells.length cl,.slice ain inl.length cin,.slice (some ⟨w4.heap.size,0,none⟩) f.tasks.length f.tasks.length] 70)
      rwa [World.size_alloc] at h
     have hr0:W0.heap[w4.heap.size]? = some (.cells (List.replicate f.tasks.length (.slice none 0 0)).toArray 42 (0,0)):=by
      rw [← hW0,← made_rep64]
      show X.heap[w4.heap.size]? = _
      rw [← hX]
      exact (Below.heap_alloc _ _ _ (by simp)).trans (heap_new w4 _)
     have hs0:W0.heap.size = w4.heap.size + 2:=by rw [← hW0];show X.heap.size = _;rw [← hX];simp
     have hc:∀ o v,(#[.slice ai f.ins.length ci,.slice an f.nods.length cn,.slice aT f.tasks.length ct,.slice al f.tells.length cl,.slice ain inl.length cin,.slice (some ⟨w4.heap.size,0,none⟩) f.tasks.length f.tasks.length]:Array Value)[o]? = some v → W0.cell? ⟨w4.heap.size + 1,o,none⟩ = some v:=fun o v h => (cell_of_row W0 _ _ _ _ _ hr1).trans h
     refine ⟨?_,But.refl _ _,⟨by omega,by omega,by omega,by omega,by omega⟩,hc _ _ rfl,hc _ _ rfl,hc _ _ rfl,hc _ _ rfl,by rw [e0,List.length_replicate];exact hc _ _ rfl,hr0,?_⟩
     ·rw [← hW0,← hX]
      exact (((Below.refl _ _).alloc (Nat.le_refl _) _).alloc (by simp) _).drew
     ·rw [e0,List.map_replicate]
      exact Fam.nils _ _ _ _)
    have HB0:=hid (show Below w.heap.size w W0 from HB4.out.trans ((show Below w4.heap.size w4 W0 from HST.out.old).mono HB4.out.size))
    rw [hW0]
    clear hW0 hX hmk KS hHeld
    have hlm:(l.map Int.toNat).length = l.length:=List.length_map _
    go_wp2
    go_loopw [37] (fun s37 wr => Hid (∃ n vs,s37 = .int .i64 ((n:Nat):Int) ∧ n ≤ U ∧ Bv (n * 60) (reckV f.ins.length inl nds f.tasks (l.map Int.toNat) n) ∧ StM w4 W0 wr (w4.heap.size + 1) w4.heap.size ai an aT f.ins.length ci cn f.nods.length f.tasks ct ain inl cin f.tasks.length vs (reckV f.ins.length inl nds f.tasks (l.map Int.toNat) n))) (fun s _ => U - (intOf s).toNat)
    case atStart => exact ⟨0,_,rfl,Nat.zero_le _,by intro l hl;rw [show reckV f.ins.length inl nds f.tasks _ 0 = List.replicate f.tasks.length [] from rfl] at hl;rw [(List.mem_replicate.1 hl).2];exact ⟨by simp,fun x hx => by cases hx⟩,HST.out⟩
    case round =>
     clear HST
     obtain ⟨wo,rfl⟩:∃ wo:World,wo = wr:=⟨_,rfl⟩
     obtain ⟨n,vs,rfl,hnU,hbv,hst⟩:=hrel.out
     clear hrel
     by_cases hlt:n < U
     ·have hn4:=HN.out.below HB4.out
      have hstp:=step_any hst (HIN.out.1.keep HB4.out.block) hn4.len hn4.row hn4.ok ((HF.out.below HB4.out).tasks) HTO.out hn4.nums (reckV_len _ _ _ _ _ _) HIN.out.2 hbv oq (l.map Int.toNat) a4 c4 (by rw [hlm];omega) HO4.out (fun t ht => by
       obtain ⟨y,hy,rfl⟩:=List.mem_map.1 ht
       have:=HLR.out y hy
       omega) (n:Int)
      rw [hlm] at hstp
      rw [← reckV_succ] at hstp
      have hbv2:=Bv.step HIN.out.2 hn4.nums hn4.ok (n:Int) (l.map Int.toNat) _ _ hbv (ni:=f.ins.length)
      rw [← reckV_succ,hlm] at hbv2
      have HBV:=hid (show Bv ((n + 1) * 60) (reckV f.ins.length inl nds f.tasks (l.map Int.toNat) (n + 1)) from fun l' hl' => ⟨by have:=(hbv2 l' hl').1;omega,(hbv2 l' hl').2⟩)
      have HSTP:=hid hstp
      have i1:(n:Int) < (U:Int):=by omega
      clear hbv hst hn4 hstp hbv2
      go_wp2_with (go_at_call 54;refine HSTP.out.mono ?_;rintro y w6 ⟨rfl,vs6,hst6⟩;have HS6:=hid hst6;clear hst6)
      exact ⟨hid ⟨n + 1,vs6,by rw [show ((n + 1:Nat):Int) = (n:Int) + 1 by omega],hlt,HBV.out,HS6.out⟩,by show U - ((n:Int) + 1).toNat < U - (n:Int).toNat;omega⟩
     ·obtain rfl:n = U:=by omega
      have hi2:¬ (n:Int) < (n:Int):=by omega
      have HS:=hid hst
      have HBV:=hid (show Bv 2000000 (reckV f.ins.length inl nds f.tasks (l.map Int.toNat) n) from fun l' hl' => ⟨by have:=(hbv l' hl').1;omega,(hbv l' hl').2⟩)
      clear hst hbv
      go_wp2
      go_ret2
      refine ⟨⟨w4,W0,_,_,_,_,_,_,_,_,_,_,_,rfl,HB4.out,HS.out,HBV.out⟩,?_⟩
      exact HB0.out.trans (HS.out.but.below HB0.out.size (fun k e => by have:=HB4.out.size;omega))
def errV (f:FD) (u:Int):Int:=if rightP f = true ∧ (0 ≤ u ∧ u ≤ 20000) then (match ofP f with | none => 6 | some _ => 0) else 12
def valsV (f:FD) (nds:List NE) (inl:List (List Int)) (u:Int):List (List Int):=reckV f.ins.length inl nds f.tasks (((ofP f).getD []).map Int.toNat) u.toNat
theorem rck_yes {w w':World} {f:FD} {nds:List NE} {ain:Option Addr} {inl:List (List Int)} {u:Int} {x:Ending} (h:RckAns w f nds ain inl u x w') (he:errV f u = 0):∃ wI W0 mb vb ai an aT ci cn ct cin cv vs,x = .returned (.tuple #[.pointer (some ⟨mb,0,none⟩),.int .i64 0]) ∧ Below w.heap.size w wI ∧ StM wI W0 w' mb vb ai an aT f.ins.length ci cn f.nods.length f.tasks ct ain inl cin cv vs (valsV f nds inl u) ∧ Bv 2000000 (valsV f nds inl u):=by
 unfold RckAns at h
 unfold errV at he
 unfold valsV
 split at h
 ·rename_i hc
  rw [if_pos hc] at he
  cases ho:ofP f with
  | none => rw [ho] at he;cases he
  | some l => rw [ho] at h;exact h
 ·rename_i hc
  rw [if_neg hc] at he
  cases he
theorem rck_no {w w':World} {f:FD} {nds:List NE} {ain:Option Addr} {inl:List (List Int)} {u:Int} {x:Ending} (h:RckAns w f nds ain inl u x w') (he:errV f u ≠ 0):x = .returned (.tuple #[.pointer none,.int .i64 (errV f u)]):=by
 unfold RckAns at h
 unfold errV at he ⊢
 split at h
 ·rename_i hc
  rw [if_pos hc] at he ⊢
  cases ho:ofP f with
  | none => rw [ho] at h;exact h
  | some l => rw [ho] at he;exact absurd rfl he
 ·rename_i hc
  rw [if_neg hc]
  exact h
theorem valsV_len (f:FD) (nds:List NE) (inl:List (List Int)) (u:Int):(valsV f nds inl u).length = f.tasks.length:=reckV_len _ _ _ _ _ _
def ValAns (f:FD) (nds:List NE) (inl:List (List Int)) (u:Int) (x:Ending) (w':World):Prop :=
 (errV f u = 0 ∧ ∃ ad cap,x = .returned (.tuple #[.slice ad f.tasks.length cap,.int .i64 0]) ∧ RowLL w' ad (valsV f nds inl u) ∧ Bv 2000000 (valsV f nds inl u)) ∨ (errV f u ≠ 0 ∧ x = .returned (.tuple #[.slice none 0 0,.int .i64 (errV f u)]))
set_option maxRecDepth 100000 in
set_option maxHeartbeats 4000000 in
theorem values_any {w:World} (f:FD) (ai an aT al:Option Addr) (ci cn ct cl:Nat) (hf:FAP w f ai an aT al) (nds:List NE) (hn:StrP w f an nds) (inl:List (List Int)) (ain:Option Addr) (cin:Nat) (hin:RowLL w ain inl) {m':Nat} (hbi:Bv m' inl) (u:Int) :
  Calls Tryz.prog 9 #[fv f ai an aT al ci cn ct cl,.slice ain inl.length cin,.int .i64 u] w fun x w' => ValAns f nds inl u x w' ∧ Below w.heap.size w w':=by
 have HRK:=hid (fun W (hb:Below w.heap.size w W) => mreckon_any (w:=W) f ai an aT al ci cn ct cl (hf.below hb) nds (hn.below hb) inl ain cin (hin.keep hb.block) hbi u)
 clear hf hn hin hbi
 unfold fv at *
 obtain ⟨W1,hW1⟩:∃ W1,w.alloc (.cells #[.slice ai f.ins.length ci,.slice an f.nods.length cn,.slice aT f.tasks.length ct,.slice al f.tells.length cl] 36) = W1:=⟨_,rfl⟩
 have hB:Below w.heap.size w W1:=by rw [← hW1];exact bq
 have hq0:W1.heap[w.heap.size]? = some (.cells #[.slice ai f.ins.length ci,.slice an f.nods.length cn,.slice aT f.tasks.length ct,.slice al f.tells.length cl] 36 (0,0)):=by rw [← hW1];exact heap_new w _
 obtain ⟨⟨x0,x1,x2,x3⟩,xf⟩:=cells4 hq0
 have HB:=hid hB
 clear hB hq0
 obtain ⟨er,her⟩:∃ er,errV f u = er:=⟨_,rfl⟩
 by_cases he:er = 0
 ·subst he
  have HRY:=hid (fun W (hb:Below w.heap.size w W) => (HRK.out W hb).mono (fun x w' h => And.intro (rck_yes h.1 her) h.2))
  go_enter Tryz.func9,Tryz.ntmps9
  go_upto_region 1 with fail
  first | rw [hW1] | skip
  clear hW1 HRK
  go_wp2_with (go_at_call 19;refine (HRY.out _ HB.out).mono ?_;rintro x w2 ⟨⟨wI,W0,mb,vb,ai2,an2,aT2,ci2,cn2,ct2,cin2,cv2,vs,rfl,hlo,hst,hbv⟩,hb2⟩;have HBV:=hid hbv;have HB2:=hid hb2;have m5:=(hst.box 5).trans hst.c5;rw [valsV_len] at m5;have HST:=hid hst;clear hb2 hst hlo hbv)
  go_ret2
  refine ⟨Or.inl ⟨her,_,_,rfl,HST.out.rows,HBV.out⟩,HB.out.trans (HB2.out.mono HB.out.size)⟩
 ·have HRY:=hid (fun W (hb:Below w.heap.size w W) => (HRK.out W hb).mono (fun x w' h => And.intro (rck_no h.1 (by rw [her];exact he)) h.2))
  rw [her] at HRY
  have hne:(er != 0) = true:=bne_iff_ne.2 he
  have HE:=hid her
  have HN0:=hid he
  go_enter Tryz.func9,Tryz.ntmps9
  go_upto_region 1 with fail
  first | rw [hW1] | skip
  clear hW1 HRK her he
  go_wp2_with (go_at_call 19;refine (HRY.out _ HB.out).mono ?_;rintro x w2 ⟨rfl,hb2⟩;have HB2:=hid hb2;clear hb2)
  go_ret2
  exact ⟨Or.inr ⟨by rw [HE.out];exact HN0.out,by rw [HE.out];rfl⟩,HB.out.trans (HB2.out.mono HB.out.size)⟩
def jobsV (p f u:Int):Int:=if clock.rightB p f = true ∧ (0 ≤ u ∧ u ≤ 20000) ∧ f < u then (u - 1 - f).tdiv p + 1 else 0
theorem rightB_iff {p f:Int} (h:clock.rightB p f = true):1 ≤ p ∧ p ≤ 2000 ∧ 0 ≤ f ∧ f ≤ 2000:=by
 by_cases h1:1 ≤ p ∧ p ≤ 2000 ∧ 0 ≤ f ∧ f ≤ 2000
 ·exact h1
 ·rw [clock.right_no h1] at h;cases h
set_option maxRecDepth 100000 in
set_option maxHeartbeats 4000000 in
theorem jobs_any (p f u:Int) (w:World):Calls Tryz.prog 11 #[.agg #[.int .i64 p,.int .i64 f],.int .i64 u] w fun x w' => x = .returned (.int .i64 (jobsV p f u)) ∧ Below w.heap.size w w':=by
 have HRI:=hid (fun W => clkRight_any p f W)
 have HAK:=hid (fun W => mayAsk_any u W)
 obtain ⟨rb,hrb⟩:∃ rb,clock.rightB p f = rb:=⟨_,rfl⟩
 obtain ⟨ak,hak⟩:∃ ak,decide (0 ≤ u ∧ u ≤ 20000) = ak:=⟨_,rfl⟩
 rw [hrb] at HRI
 rw [hak] at HAK
 obtain ⟨W1,hW1⟩:∃ W1,w.alloc (.cells #[.int .i64 p,.int .i64 f] 49) = W1:=⟨_,rfl⟩
 have hB:Below w.heap.size w W1:=by rw [← hW1];exact bq
 have hq0:W1.heap[w.heap.size]? = some (.cells #[.int .i64 p,.int .i64 f] 49 (0,0)):=by rw [← hW1];exact heap_new w _
 have hl0:=lt_of_block hq0
 obtain ⟨⟨x0,x1⟩,xf⟩:=cells2 hq0
 have HQ:=hid hq0
 have HB:=hid hB
 clear hB hq0
 cases rb with
 | false =>
  have e:jobsV p f u = 0:=by unfold jobsV;rw [if_neg (fun h => by rw [hrb] at h;cases h.1)]
  rw [e]
  clear e
  go_enter Tryz.func11,Tryz.ntmps11
  go_upto_region 1 with fail
  first | rw [hW1] | skip
  clear hW1
  go_wp2_with (go_at_call 24;refine (HRI.out _).mono ?_;rintro x w2 ⟨rfl,hb2⟩;have HB2:=hid hb2;clear hb2)
  go_ret
  exact ⟨rfl,HB.out.trans (HB2.out.mono HB.out.size)⟩
 | true =>
  obtain ⟨p1,p2,f1,f2⟩:=rightB_iff hrb
  cases ak with
  | false =>
   have e:jobsV p f u = 0:=by unfold jobsV;rw [if_neg (fun h => by have:=decide_eq_true h.2.1;rw [hak] at this;cases this)]
   rw [e]
   clear e
   go_enter Tryz.func11,Tryz.ntmps11
   go_upto_region 1 with fail
   first | rw [hW1] | skip
   clear hW1
   go_wp2_with (first | (go_at_call 24;refine (HRI.out _).mono ?_;rintro x w2 ⟨rfl,hb2⟩;have HB2:=hid hb2;clear hb2) | (go_at_call 25;refine (HAK.out _).mono ?_;rintro x w3 ⟨rfl,rfl⟩))
   go_ret
   exact ⟨rfl,HB.out.trans (HB2.out.mono HB.out.size)⟩
  | true =>
   have hu:=of_decide_eq_true hak
   by_cases hf:f < u
   ·have e:jobsV p f u = (u - 1 - f).tdiv p + 1:=by unfold jobsV;rw [if_pos ⟨hrb,hu,hf⟩]
    rw [e]
    have hle:¬ u ≤ f:=by omega
    have e1:IntKind.i64.wrap (u - 1) = u - 1:=IntWalk.i64_in _ oq
    have e2:IntKind.i64.wrap (u - 1 - f) = u - 1 - f:=IntWalk.i64_in _ oq
    have hd:(u - 1 - f).tdiv p = (u - 1 - f) / p:=Int.tdiv_eq_ediv_of_nonneg oq
    have hd1:0 ≤ (u - 1 - f) / p:=Int.ediv_nonneg oq oq
    have hd2:(u - 1 - f) / p ≤ u - 1 - f:=Int.ediv_le_self _ oq
    have e3:IntKind.i64.wrap ((u - 1 - f).tdiv p) = (u - 1 - f).tdiv p:=IntWalk.i64_in _ oq
    have e4:IntKind.i64.wrap ((u - 1 - f).tdiv p + 1) = (u - 1 - f).tdiv p + 1:=IntWalk.i64_in _ oq
    have hp0:(p == 0) = false:=by rw [beq_eq_false_iff_ne];omega
    have hp1:¬ p = 0:=by omega
    clear e hd hd1 hd2
    go_enter Tryz.func11,Tryz.ntmps11
    go_upto_region 1 with fail
    first | rw [hW1] | skip
    clear hW1
    go_wp2_with (first | (go_at_call 24;refine (HRI.out _).mono ?_;rintro x w2 ⟨rfl,hb2⟩;have HB2:=hid hb2;obtain ⟨⟨y0,y1⟩,yf⟩:=cells2 ((hb2.block _ hl0).trans HQ.out);clear hb2) | (go_at_call 25;refine (HAK.out _).mono ?_;rintro x w3 ⟨rfl,rfl⟩))
    go_ret
    exact ⟨rfl,HB.out.trans (HB2.out.mono HB.out.size)⟩
   ·have e:jobsV p f u = 0:=by unfold jobsV;rw [if_neg (fun h => hf h.2.2)]
    rw [e]
    have hle:u ≤ f:=by omega
    clear e
    go_enter Tryz.func11,Tryz.ntmps11
    go_upto_region 1 with fail
    first | rw [hW1] | skip
    clear hW1
    go_wp2_with (first | (go_at_call 24;refine (HRI.out _).mono ?_;rintro x w2 ⟨rfl,hb2⟩;have HB2:=hid hb2;obtain ⟨⟨y0,y1⟩,yf⟩:=cells2 ((hb2.block _ hl0).trans HQ.out);clear hb2) | (go_at_call 25;refine (HAK.out _).mono ?_;rintro x w3 ⟨rfl,rfl⟩))
    go_ret
    exact ⟨rfl,HB.out.trans (HB2.out.mono HB.out.size)⟩
theorem awake10_any (w:World):Calls Tryz.prog 6 #[] w fun x w' => x = .returned (.bool true) ∧ Below w.heap.size w w':=by
 have HJ:=hid (fun W => jobs_any 10 5 26 W)
 rw [show jobsV 10 5 26 = 3 from by decide] at HJ
 go_enter Tryz.func6,Tryz.ntmps6
 go_wp2_with (go_at_call 11;refine (HJ.out _).mono ?_;rintro x w2 ⟨rfl,hb2⟩;have HB2:=hid hb2;clear hb2)
 go_ret
 exact ⟨rfl,HB2.out⟩
def BoolAns (x:Ending):Prop:=∃ b,x = .returned (.bool b)
set_option maxRecDepth 100000 in
set_option maxHeartbeats 2000000 in
theorem few10_any {w:World} (inl:List (List Int)) (ain:Option Addr) (cin:Nat) (hin:RowLL w ain inl):Calls Tryz.prog 7 #[.slice ain inl.length cin] w fun x w' => BoolAns x ∧ w' = w:=by
 have HIN:=hid hin
 clear hin
 go_enter Tryz.func7,Tryz.ntmps7
 go_wp2
 go_loopw [3] (fun s wr => Hid (∃ i:Nat,s = .int .i64 (i:Int) ∧ i ≤ 50 ∧ wr = w)) (fun s _ => 50 - (intOf s).toNat)
 case atStart => exact ⟨0,rfl,by omega,rfl⟩
 case round =>
  obtain ⟨i,rfl,hi,rfl⟩:=hrel.out
  clear hrel
  by_cases hlt:i < inl.length
  ·have hil:(i:Int) < (inl.length:Int):=by omega
   have hi0:(0:Int) ≤ (i:Int):=by omega
   by_cases h50:i < 50
   ·have hi5:(i:Int) < 50:=by omega
    obtain ⟨l,hl⟩:∃ l,inl[i]? = some l:=⟨_,List.getElem?_eq_getElem hlt⟩
    obtain ⟨b,o,rfl,hb,hc⟩:=HIN.out.resolve_left (fun e => by rw [e] at hlt;simp at hlt)
    obtain ⟨a,c,c1,_⟩:=hc i l hl
    obtain ⟨ln,hln⟩:∃ ln,l.length = ln:=⟨_,rfl⟩
    rw [hln] at c1
    clear hc hln hl
    by_cases hbig:(ln:Int) > 1000
    ·go_wp2
     go_ret
     exact ⟨⟨_,rfl⟩,rfl⟩
    ·go_wp2
     exact ⟨hid ⟨i + 1,by go_num,by omega,by first | rfl | trivial⟩,by simp [intOf];omega⟩
   ·have hi5:¬ (i:Int) < 50:=by omega
    go_wp2
    go_ret
    exact ⟨⟨_,rfl⟩,rfl⟩
  ·have hil:¬ (i:Int) < (inl.length:Int):=by omega
   go_wp2
   go_ret
   exact ⟨⟨_,rfl⟩,rfl⟩
end Go.Proofs.YtpjficjlfibibaaGreatDoor.syn
