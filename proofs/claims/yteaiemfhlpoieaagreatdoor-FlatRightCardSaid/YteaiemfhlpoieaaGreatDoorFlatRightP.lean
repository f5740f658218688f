/-
  FlatRight returns true for all programs, numbers and places, and what was in memory stays as it was: the tied card. No conditions beyond the row's own (the tables that it lists hold what the program's text lays).
-/
import Derived.SizedLaws
import Derived.Test.YteaiemfhlpoieaaGreatDoorRows
import Derived.Test.YteaiemfhlpoieaaGreatDoorTie
import Derived.Test.YteaiemfhlpoieaaGreatDoorCards
import Derived.WalkKit
import Derived.ProofKit
import Derived.OpenShut
import Derived.ShutString
import Derived.ChangeOld
import Derived.Below
import Derived.Carry
import Derived.Lib.SmallJoins
import Derived.LaidMore
import Derived.Lay
import Derived.SevenTiedAt
import Derived.Test.YteaiemfhlpoieaaGreatDoorQ42
namespace Go.Proofs.YteaiemfhlpoieaaGreatDoor.flatRight
open Go.ChangeShapes Go.WideShapes Go.ChangeAt Go.RowKit Go.Joins
set_option linter.unusedVariables false
theorem own:ownKnob Tryz.prog.godebug = none:=by kernel_rfl
theorem laidOut:laidOutB Tryz.prog = true:=by kernel_rfl
open syn
theorem small_field {H:Type} {P:Program} {ts:List TypeId} {ds:List (DataW H)} (h:(DataW.weightsEach P ts ds).all (· ≤ reachBytes) = true) {j:Nat} {t:TypeId} {fs:Array Field} {parts:List (DataW H)} (ht:ts[j]? = some t) (hd:ds[j]? = some (.agg parts)) (hu:P.underlying t = some (.struct fs))
    {k:Nat} {ft e:TypeId} (hft:(fs.toList.map (·.type))[k]? = some ft) (hue:P.underlying ft = some (.slice e)) (hb:decide (1 ≤ P.bytesOf e) = true) {y:DataW H × List MemPlace} (hk:parts[k]? = some y.1)
    {enc:TypeId × Value → H} {w:World} {base:Nat} {sp:Nat → Bool} {held:Bool} {n:Nat} {ad:Option Addr} {len cap:Nat} (tr:DataW.trod enc P w base sp held n ft [.slice ad len cap] = some y):len ≤ 140737488351232:=by
  rcases DataW.trod_slice hue tr with ⟨hcs,_⟩ | ⟨a,l,c,elems,rest,m,_,hcs,hx,_,_,_,hl,_⟩
  · simp at hcs;omega
  · have hll:len = l:=by simp at hcs;exact hcs.2.1
    have hy:y.1 = .slice (elems.map (·.1)) (rest.map (·.1)):=by rw [hx]
    rw [hy] at hk
    have hm:((elems.map (·.1)).length + (rest.map (·.1)).length) * P.bytesOf e ∈ DataW.weights P t (.agg parts):=by
      simp only [DataW.weights,hu]
      refine DataW.weights_mem_each hft hk _ ?_
      simp [DataW.weights,hue]
    have h2:=List.all_eq_true.1 h _ (DataW.weights_mem_each ht hd _ hm)
    simp only [List.length_map,decide_eq_true_eq,reachBytes] at h2
    have hb:=of_decide_eq_true hb
    have h3:=Nat.le_mul_of_pos_right (elems.length + rest.length) hb
    omega
theorem u8_nat {b:Int} (h:(Lit.int .u8 b).wf = true):∃ n:Nat,b = (n:Int) ∧ n ≤ 255:=by
  have h1:0 ≤ b ∧ b ≤ 255:=by simpa [Lit.wf,IntKind.min,IntKind.max,IntKind.signed,IntKind.bits] using h
  exact ⟨b.toNat,by omega,by omega⟩
set_option maxRecDepth 100000 in
set_option maxHeartbeats 2000000 in
theorem lifted (os:Os) (started:os.Started) (H:Type) (enc:TypeId × Value → H) :
    ReturnsInHanded {} Tryz.checked os 4 .any (fun w args => (Rows.flatRightSpec.pre enc Tryz.prog Tryz.f4 Rows.flatRightRow.domain false w args ∧ laidMetH Tryz.prog Rows.flatRightRow.laid w) ∧ sizedMet enc Tryz.prog Tryz.f4 (OpenSpec.ofChange Rows.flatRightSpec) false w args)
      (Rows.flatRightSpec.post enc Tryz.prog Tryz.f4 false true false false):=by
  refine returnsInHanded_of_change_and (C:=Tryz.checked) (X:=fun w _ => laidMetH Tryz.prog Rows.flatRightRow.laid w) (fun _ _ _ hh h => h.of_heap hh) own started (by kernel_rfl) Tryz.func4
    (ChangeSpec.witness_shaped (enc:=enc) (C:=Tryz.checked) (os:=os) (X:=fun w _ => laidMetH Tryz.prog Rows.flatRightRow.laid w) false (World.laidAll Tryz.prog os Rows.flatRightRow.laid) #[.agg #[.slice none 0 0,.slice none 0 0,.slice none 0 0,.slice none 0 0],.int .i64 0,.agg #[.int .u8 0,.int .u8 0]] 8 (World.laidAll_os _ _ _)
      (World.shaped_of_ZipB (by kernel_rfl) (by kernel_rfl)) (by kernel_rfl) (by kernel_rfl) (by kernel_rfl)
      (by rw [MakeChecks.laidMetH_plain _ _ _ (by kernel_rfl)];exact laidMet_laidAll _ (by kernel_rfl) (by kernel_rfl))) ?_
  intro W base args ds gs before hval0 hW hcnd hsz _ _
  have hval:∀ (j:Nat) t v,Tryz.f4.params[j]? = some t → args[j]? = some v → Value.okWide Tryz.prog W .any base t v:=hval0
  have hW':=hW
  obtain ⟨p,q,hA0,hV,rfl,hfz,hnd⟩:=hW
  have hA:DataW.TrodAll enc Tryz.prog W 0 (fun _ => true) true Tryz.f4.params.toList args.toList ds p:=hA0
  rw [Tryz.params4] at hA hval
  obtain ⟨v0,vs0,d0,ds0,q0,qs0,hargs,rfl,rfl,h0,r0⟩:=trodAll_cons hA
  obtain ⟨v1,vs1,d1,ds1,q1,qs1,rfl,rfl,rfl,h1,r1⟩:=trodAll_cons r0
  obtain ⟨v2,vs2,d2,ds2,q2,qs2,rfl,rfl,rfl,h2,r2⟩:=trodAll_cons r1
  obtain ⟨rfl,rfl,rfl⟩:=trodAll_nil r2
  obtain rfl:args = #[v0,v1,v2]:=by cases args;simp_all
  obtain ⟨rfl,rfl⟩:=trodVars_none hV
  have k0:=h0
  have lt0:∀ x ∈ q0,x.block < W.heap.size:=by obtain ⟨m,hm⟩:=k0;exact DataW.trod_lt m _ _ _ hm
  have k1:=h1
  have lt1:∀ x ∈ q1,x.block < W.heap.size:=by obtain ⟨m,hm⟩:=k1;exact DataW.trod_lt m _ _ _ hm
  have k2:=h2
  have lt2:∀ x ∈ q2,x.block < W.heap.size:=by obtain ⟨m,hm⟩:=k2;exact DataW.trod_lt m _ _ _ hm
  obtain ⟨c00,c01,c02,c03,y00,y01,y02,y03,n0,rfl,rfl,hq0,t00,t01,t02,t03⟩:=open_agg4 Tryz.underlying27 (by kernel_rfl) (by kernel_rfl) (hval 0 27 v0 rfl rfl) h0
  obtain ⟨fuel0,hf0⟩:=k0
  obtain ⟨p0,an0,ai0,af0,ao0,cn0,ci0,cf0,co0,hp0,hcs0⟩:=open_pg hf0
  simp [Value.cells] at hcs0
  have k0:=h0
  obtain ⟨rfl,rfl,rfl,rfl⟩:=hcs0
  have hz0:NZ W p0.nodes an0:=nz_nodes hp0.nodes t00 (fun b off hm => hfz b off (by rw [hq0];simp only [List.mem_append];exact Or.inl (Or.inl (Or.inl hm))))
  have hs0:SmallP p0:=⟨small_field hsz (j:=0) (k:=0) (by rfl) (by rfl) Tryz.underlying27 (by rfl) Tryz.underlying22 (by kernel_rfl) (by rfl) t00,small_field hsz (j:=0) (k:=1) (by rfl) (by rfl) Tryz.underlying27 (by rfl) Tryz.underlying23 (by kernel_rfl) (by rfl) t01,
    small_field hsz (j:=0) (k:=2) (by rfl) (by rfl) Tryz.underlying27 (by rfl) Tryz.underlying24 (by kernel_rfl) (by rfl) t02,small_field hsz (j:=0) (k:=3) (by rfl) (by rfl) Tryz.underlying27 (by rfl) Tryz.underlying25 (by kernel_rfl) (by rfl) t03⟩
  obtain ⟨a1,rfl,rfl,rfl,w1⟩:=open_int Tryz.underlying2 (hval 1 2 v1 rfl rfl) h1
  obtain ⟨cs2,rfl,hsz2,_⟩:∃ cs,v2 = .agg cs ∧ cs.size = Tryz.prog.cellsOf 69 ∧ Row.okWide Tryz.prog W .any base 69 cs:=by
    have:=hval 2 69 v2 rfl rfl
    simpa [Value.okWide,Tryz.underlying69] using this
  rw [show Tryz.prog.cellsOf 69 = 2 from by kernel_rfl] at hsz2
  obtain ⟨e0,e1,rfl⟩:=array2 hsz2
  obtain ⟨fuel2,hf2⟩:=k2
  obtain ⟨xs2,m2,_,_,_,hl2,hel2⟩:=DataW.trod_array Tryz.underlying69 hf2
  have k2:=h2
  have hE0:=hel2 0 oq
  have hE1:=hel2 1 oq
  rw [show Tryz.prog.cellsOf 5 = 1 from by kernel_rfl,List.getElem?_eq_getElem oq] at hE0 hE1
  obtain ⟨b0,f0,_,wf0⟩:=DataW.trod_int Tryz.underlying5 hE0
  obtain ⟨b1,f1,_,wf1⟩:=DataW.trod_int Tryz.underlying5 hE1
  simp [Value.cells] at f0 f1
  subst f0
  subst f1
  obtain ⟨wa,rfl,hwa⟩:=u8_nat wf0
  obtain ⟨wh,rfl,hwh⟩:=u8_nat wf1
  clear hA0 hval0
  refine (flatRight_walk p0 an0 ai0 af0 ao0 cn0 ci0 cf0 co0 hp0 hz0 hs0 a1 (i64_of w1) wa wh hwa hwh).mono fun e W' ⟨he,bel⟩ => ?_
  subst he
  exact ⟨_,rfl,_,_,_,[],_,[],hW',trodAll_mk1 (shut_bool Tryz.underlying4 _),(trodAll_cons_mk (Below.trod laidOut (by kernel_rfl) (of_decide_eq_true (by kernel_rfl)) k0 bel lt0) (trodAll_cons_mk (Below.trod laidOut (by kernel_rfl) (of_decide_eq_true (by kernel_rfl)) k1 bel lt1) (trodAll_cons_mk (Below.trod laidOut (by kernel_rfl) (of_decide_eq_true (by kernel_rfl)) k2 bel lt2) trodAll_mk0))),rfl,bel.frame _,fun h => by cases h⟩
theorem over:Rows.flatRightRow.holds Tryz.pinned (OpenSpec.ofChange Rows.flatRightSpec) :=
  OpenClaim.holds_of_wide 4 Tryz.f4 rfl rfl rfl rfl rfl rfl rfl ⟨rfl,rfl,rfl,rfl,rfl⟩ rfl rfl rfl rfl rfl (by kernel_rfl) Tryz.func4 (by kernel_rfl)
    (of_decide_eq_true (by kernel_rfl)) (by unfold Func.isWrapper;first | (rw [if_pos (by decide +kernel)];kernel_rfl) | (rw [if_neg (by decide +kernel)];exact ⟨rfl,rfl⟩))
    (fun os started H enc _ => lifted os started H enc)
theorem proved:Rows.FlatRightCardSaid :=
  Claim7.holds_tied_plain_at .later [] [.data, .data, .data] true (true, "c8fd6ef3779224d2fa2faa89456f7d406e90af77e0d6f5380e73152078c9a8bc") false over (fun _ h => by cases h) (by kernel_rfl) (fun _ h => by cases h) flatRight_row_tie rfl ⟨rfl, rfl⟩ (by kernel_rfl) rfl
    (fun f fn hf hfn => by
      obtain rfl : f = 4 := Option.some.inj ((show Tryz.prog.funcNamed "horarium/horariumlaw08.FlatRight" = some 4 by kernel_rfl).symm.trans hf) |>.symm
      obtain rfl:fn = Tryz.f4:=(Option.some.inj (Tryz.func4.symm.trans hfn)).symm
      exact ⟨by kernel_rfl,fun j t ht => by
        rw [Tryz.params4] at ht
        have hm:t ∈ [27,2,69]:=by simpa using Array.mem_of_getElem? ht
        have hall:([27,2,69].all fun u => !Tryz.prog.wantsStandIn u) = true:=by kernel_rfl
        exact (show Tryz.prog.wantsStandIn t = false by simpa using List.all_eq_true.1 hall t hm)⟩)
    (by kernel_rfl)
end Go.Proofs.YteaiemfhlpoieaaGreatDoor.flatRight
