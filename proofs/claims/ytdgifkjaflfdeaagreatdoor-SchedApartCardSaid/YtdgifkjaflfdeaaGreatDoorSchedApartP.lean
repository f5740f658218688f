/- SchedApart returns true for all programs: the tied card. -/
import Derived.Below
import Derived.Carry
import Derived.ChangeOld
import Derived.Lib.SmallJoins
import Derived.OpenShut
import Derived.ProofKit
import Derived.SevenTiedAt
import Derived.ShutString
import Derived.SizedLaws
import Derived.Test.YtdgifkjaflfdeaaGreatDoorRows
import Derived.Test.YtdgifkjaflfdeaaGreatDoorX46
import Derived.WalkKit
set_option linter.all false
set_option maxRecDepth 100000
set_option maxHeartbeats 16000000
namespace Go.Proofs.YtdgifkjaflfdeaaGreatDoor.schedApart
open Go.Proofs.Tryz
open Go.ChangeShapes Go.WideShapes Go.ChangeAt Go.RowKit Go.Joins
theorem own:ownKnob prog.godebug=none:=by kernel_rfl
theorem laidOut:laidOutB prog=true:=by kernel_rfl
open syn
theorem sf{H:Type}{P:Program}{ts:List TypeId}{ds:List (DataW H)}(h:(DataW.weightsEach P ts ds).all (·<=reachBytes)=true){j:Nat}{t:TypeId}{fs:Array Field}{parts:List (DataW H)}(ht:ts[j]?=some t)(hd:ds[j]?=some (.agg parts))(hu:P.underlying t=some (.struct fs))
  {k:Nat}{ft e:TypeId}(hft:(fs.toList.map (·.type))[k]?=some ft)(hue:P.underlying ft=some (.slice e))(hb:decide (1<=P.bytesOf e)=true){y:DataW H × List MemPlace}(hk:parts[k]?=some y.1)
  {enc:TypeId × Value->H}{w:World}{base:Nat}{sp:Nat->Bool}{held:Bool}{n:Nat}{ad:OA}{len cap:Nat}(tr:DataW.trod enc P w base sp held n ft [.slice ad len cap]=some y):len<=140737488351232:=by
 rcases DataW.trod_slice hue tr with ⟨hcs,_⟩|⟨a,l,c,elems,rest,m,_,hcs,hx,_,_,_,hl,_⟩
 .simp at hcs;omega
 have hll:len=l:=by simp at hcs;exact hcs.2.1
 have hy:y.1=.slice (elems.map (·.1)) (rest.map (·.1)):=by rw[hx]
 rw[hy] at hk;have hm:((elems.map (·.1)).length+(rest.map (·.1)).length)*P.bytesOf e∈DataW.weights P t (.agg parts):=by
  simp only[DataW.weights,hu];refine DataW.weights_mem_each hft hk _ ?_;simp[DataW.weights,hue]
 have h2:=List.all_eq_true.1 h _ (DataW.weights_mem_each ht hd _ hm);simp only[syn.Zo,syn.Yl,reachBytes] at h2;have hb:=syn.Yk hb;have h3:=Nat.le_mul_of_pos_right (elems.length+rest.length) hb;omega
theorem lifted(os:Os)(started:os.Started)(H:Type)(enc:TypeId × Value->H) :
  ReturnsInHanded {} Tryz.checked os 5 .any (fun w args=>(Rows.schedApartSpec.pre enc prog Tryz.f5 Rows.schedApartRow.domain false w args/\laidMetH prog Rows.schedApartRow.laid w)/\sizedMet enc prog Tryz.f5 (OpenSpec.ofChange Rows.schedApartSpec) false w args)
   (Rows.schedApartSpec.post enc prog Tryz.f5 false true false false):=by
 refine returnsInHanded_of_change_and (C:=Tryz.checked) (X:=fun w _=>laidMetH prog Rows.schedApartRow.laid w) (fun _ _ _ hh h=>h.of_heap hh) own started syn.kq func5
  (ChangeSpec.witness_shaped (enc:=enc) (C:=Tryz.checked) (os:=os) (X:=fun w _=>laidMetH prog Rows.schedApartRow.laid w) false (World.laidAll prog os Rows.schedApartRow.laid) #[.agg #[.slice none 0 0,.slice none 0 0,.slice none 0 0,.slice none 0 0]] 8 (World.laidAll_os _ _ _)
   (World.shaped_of_ZipB syn.kq syn.kq) syn.kq syn.kq syn.kq
   (by rw[MakeChecks.laidMetH_plain _ _ _ syn.kq];exact laidMet_laidAll _ syn.kq syn.kq)) ?_
 intro W base args ds gs before hval0 hW hcnd hsz _ _;have hval:∀(j:Nat) t v,Tryz.f5.params[j]?=some t->args[j]?=some v->Value.okWide prog W .any base t v:=hval0;have hW':=hW;obtain⟨p,q,hA0,hV,rfl,hfz,hnd⟩:=hW;have hA:DataW.TrodAll enc prog W 0 (fun _=>true) true Tryz.f5.params.toList args.toList ds p:=hA0;rw[params5] at hA hval;obtain⟨v0,vs0,d0,ds0,q0,qs0,hargs,rfl,rfl,h0,r0⟩:=trodAll_cons hA;obtain⟨rfl,rfl,rfl⟩:=trodAll_nil r0;obtain rfl:args=#[v0]:=by cases args;simp_all
 obtain⟨rfl,rfl⟩:=trodVars_none hV;have k0:=h0;have lt0:∀x∈q0,x.block<W.1.size:=by obtain⟨m,hm⟩:=k0;exact DataW.trod_lt m _ _ _ hm
 obtain⟨c00,c01,c02,c03,y00,y01,y02,y03,n0,rfl,rfl,hq0,t00,t01,t02,t03⟩:=open_agg4 underlying27 syn.kq syn.kq (hval 0 27 v0 rfl rfl) h0;obtain⟨fuel0,hf0⟩:=k0;obtain⟨p0,an0,ai0,af0,ao0,cn0,ci0,cf0,co0,hp0,hcs0⟩:=Zez hf0;simp[Value.cells] at hcs0;have k0:=h0;obtain⟨rfl,rfl,rfl,rfl⟩:=hcs0;have hz0:NZ W p0.nodes an0:=ZcT hp0.nodes t00 (fun b off hm=>hfz b off (by rw[hq0];simp only[List.mem_append];exact Or.inl (Or.inl (Or.inl hm))));have hs0:vv p0:=⟨sf hsz (j:=0) (k:=0) (by rfl) (by rfl) underlying27 (by rfl) underlying22 syn.kq (by rfl) t00,sf hsz (j:=0) (k:=1) (by rfl) (by rfl) underlying27 (by rfl) underlying23 syn.kq (by rfl) t01,
  sf hsz (j:=0) (k:=2) (by rfl) (by rfl) underlying27 (by rfl) underlying24 syn.kq (by rfl) t02,sf hsz (j:=0) (k:=3) (by rfl) (by rfl) underlying27 (by rfl) underlying25 syn.kq (by rfl) t03⟩
 clear hA0 hval0;refine(eP an0 ai0 af0 ao0 _ _ _ _ cn0 ci0 cf0 co0 (fun W' hb=>(Zcz (w:=W') p0 an0 ai0 af0 ao0 cn0 ci0 cf0 co0 (hp0.below hb) (hz0.below hp0.nodes hb) hs0).mono (fun x w' h=>⟨ZfZ h.1,h.2⟩)) Zd3).mono fun e W' ⟨he,bel⟩=>?_
 subst he;exact⟨_,rfl,_,_,_,[],_,[],hW',trodAll_mk1 (shut_bool underlying4 _),(trodAll_cons_mk (Below.trod laidOut syn.kq (syn.Yk syn.kq) k0 bel lt0) trodAll_mk0),rfl,bel.frame _,fun h=>by cases h⟩
theorem over:Rows.schedApartRow.holds Tryz.pinned (OpenSpec.ofChange Rows.schedApartSpec) :=
 OpenClaim.holds_of_wide 5 Tryz.f5 rfl rfl rfl rfl rfl rfl rfl ⟨rfl,rfl,rfl,rfl,rfl⟩ rfl rfl rfl rfl rfl syn.kq func5 jf
  (syn.Yk syn.kq) (by unfold Func.isWrapper;first|(rw[syn.Z3 (by decide +kernel)];kernel_rfl)|(rw[syn.Z2 (by decide +kernel)];exact⟨rfl,rfl⟩))
  (fun os started H enc _=>lifted os started H enc)
theorem proved:Rows.SchedApartCardSaid :=
 Claim7.holds_tied_plain_at .later [] [.data,.data,.data] true (true,_) true over (fun _ h=>by cases h) syn.kq (fun _ h=>by cases h) schedApart_row_tie rfl ⟨rfl,rfl⟩ syn.kq rfl
  (fun f fn hf hfn=>by
   obtain rfl : f = 5 := Option.some.inj ((show prog.funcNamed "horarium/horariumlaw12.SchedApart" = some 5 by kernel_rfl).symm.trans hf) |>.symm
   obtain rfl:fn=Tryz.f5:=(Option.some.inj (func5.symm.trans hfn)).symm;exact⟨by kernel_rfl,fun j t ht=>by
    rw[params5] at ht;have hm:t∈[27]:=by simpa using Array.mem_of_getElem? ht
    have hall:([27].all fun u=>!prog.wantsStandIn u)=true:=by kernel_rfl
    exact(show prog.wantsStandIn t=false by simpa using List.all_eq_true.1 hall t hm)⟩)
  syn.kq
end Go.Proofs.YtdgifkjaflfdeaaGreatDoor.schedApart
