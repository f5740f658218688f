/-
  StreamValues returns true for all programs, all inputs' values and all dates, and what was in memory stays as it was: the tied card. No conditions beyond the row's own (the tables that it lists hold what the program's text lays).
-/
import Derived.Below
import Derived.Carry
import Derived.ChangeOld
import Derived.LaidMore
import Derived.Lay
import Derived.Lib.SmallJoins
import Derived.OpenShut
import Derived.ProofKit
import Derived.SevenTiedAt
import Derived.ShutString
import Derived.SizedLaws
import Derived.Test.YtdgifkjaflfdeaaGreatDoorCards
import Derived.Test.YtdgifkjaflfdeaaGreatDoorRows
import Derived.Test.YtdgifkjaflfdeaaGreatDoorTie
import Derived.Test.YtdgifkjaflfdeaaGreatDoorV51
import Derived.WalkKit
set_option linter.all false
set_option maxRecDepth 100000
set_option maxHeartbeats 16000000
namespace Go.Proofs.YtdgifkjaflfdeaaGreatDoor.streamValues
open Go.Proofs.Tryz
open Go.ChangeShapes Go.WideShapes Go.ChangeAt Go.RowKit Go.Joins
theorem own:ownKnob prog.godebug=none:=by kernel_rfl
theorem laidOut:laidOutB prog=true:=by kernel_rfl
open syn
theorem small_field{H:Type}{P:Program}{ts:List TypeId}{ds:List (DataW H)}(h:(DataW.weightsEach P ts ds).all (·≤reachBytes)=true){j:Nat}{t:TypeId}{fs:Array Field}{parts:List (DataW H)}(ht:ts[j]?=some t)(hd:ds[j]?=some (.agg parts))(hu:P.underlying t=some (.struct fs))
  {k:Nat}{ft e:TypeId}(hft:(fs.toList.map (·.type))[k]?=some ft)(hue:P.underlying ft=some (.slice e))(hb:decide (1≤P.bytesOf e)=true){y:DataW H × List MemPlace}(hk:parts[k]?=some y.1)
  {enc:TypeId × Value→H}{w:World}{base:Nat}{sp:Nat→Bool}{held:Bool}{n:Nat}{ad:Option Addr}{len cap:Nat}(tr:DataW.trod enc P w base sp held n ft [.slice ad len cap]=some y):len≤140737488351232:=by
 rcases DataW.trod_slice hue tr with ⟨hcs,_⟩|⟨a,l,c,elems,rest,m,_,hcs,hx,_,_,_,hl,_⟩
 ·simp at hcs;omega
 have hll:len=l:=by simp at hcs;exact hcs.2.1
 have hy:y.1=.slice (elems.map (·.1)) (rest.map (·.1)):=by rw[hx]
 rw[hy] at hk;have hm:((elems.map (·.1)).length+(rest.map (·.1)).length)*P.bytesOf e∈DataW.weights P t (.agg parts):=by
  simp only[DataW.weights,hu];refine DataW.weights_mem_each hft hk _ ?_;simp[DataW.weights,hue]
 have h2:=List.all_eq_true.1 h _ (DataW.weights_mem_each ht hd _ hm);simp only[syn.Zo,syn.Yi,reachBytes] at h2;have hb:=syn.Yh hb;have h3:=Nat.le_mul_of_pos_right (elems.length+rest.length) hb;omega
theorem u8_nat{b:Int}(h:(Lit.int .u8 b).wf=true):∃n:Nat,b=(n:Int)∧n≤255:=by
 have h1:0≤b∧b≤255:=by simpa [Lit.wf,IntKind.min,IntKind.max,IntKind.signed,IntKind.bits] using h
 exact⟨b.toNat,syn.oq,syn.oq⟩
theorem int64Cell:prog.cellsOf 2=1:=by kernel_rfl
theorem sl64Cell:prog.cellsOf 54=1:=by kernel_rfl
theorem open_ll{H:Type}{enc:TypeId × Value→H}{w:World}{base:Nat}{sp:Nat→Bool}{held:Bool}{n:Nat}{cs:List Value}{x}(h:DataW.trod enc prog w base sp held n 28 cs=some x) :
  ∃(inl:List (List Int))(ad:Option Addr)(cap:Nat),Qo w ad inl∧Bv 9223372036854775807 inl∧cs=[.slice ad inl.length cap]:=by
 obtain⟨l,ad,cap,hr,_,_,hcs⟩:=syn.open_row (P:=fun w b o (l:List Int)=>∃a c,w.cell? ⟨b,o,none⟩=some (.slice a l.length c)∧Je w (Value.int .i64) a l∧(l.length≤9223372036854775807∧∀x∈l,B64 x)) underlying28 sl64Cell syn.oq (fun n cs x h=>by
  obtain⟨l,ad,cap,hr,hlc,hm,hcs⟩:=syn.open_row (P:=fun w b o (v:Int)=>w.cell? ⟨b,o,none⟩=some (.int .i64 v)∧B64 v) underlying54 int64Cell syn.oq (fun n cs x h=>by
   obtain⟨b0,f0,_,wf0⟩:=DataW.trod_int underlying2 h;refine⟨b0,fun b o hb hc=>⟨?_,QK wf0⟩⟩;have:=hc 0 syn.oq;rw[Nat.add_zero] at this;rw[this,f0];rfl) h
  refine⟨l,fun b o hb hc=>⟨ad,cap,?_,?_,syn.oq,?_⟩⟩
  ·have:=hc 0 syn.oq;rw[Nat.add_zero] at this;rw[this,hcs];rfl
  ·rcases hr with h0|⟨b2,o2,e2,hb2,hc2⟩
   ·exact .inl h0
   refine .inr ⟨b2,o2,e2,hb2,fun i y hy=>?_⟩;obtain⟨hi,rfl⟩:=syn.Zz.1 hy;have:=(hc2 i hi).1
   rwa [syn.Z6] at this
  intro y hy;rcases hr with h0|⟨b2,o2,e2,hb2,hc2⟩
  ·rw[h0] at hy;cases hy
  obtain⟨i,hi,rfl⟩:=syn.Yk hy;exact(hc2 i hi).2) h
 refine⟨l,ad,cap,?_,?_,hcs⟩
 ·rcases hr with h0|⟨b2,o2,e2,hb2,hc2⟩
  ·exact .inl h0
  refine .inr ⟨b2,o2,e2,hb2,fun i y hy=>?_⟩;obtain⟨hi,rfl⟩:=syn.Zz.1 hy;obtain⟨a,c,h1,h2,_⟩:=hc2 i hi;rw[syn.Z6] at h1;exact⟨a,c,h1,h2⟩
 intro y hy;rcases hr with h0|⟨b2,o2,e2,hb2,hc2⟩
 ·rw[h0] at hy;cases hy
 obtain⟨i,hi,rfl⟩:=syn.Yk hy;obtain⟨a,c,_,_,h3⟩:=hc2 i hi;exact h3
theorem lifted(os:Os)(started:os.Started)(H:Type)(enc:TypeId × Value→H) :
  ReturnsInHanded {} Tryz.checked os 3 .any (fun w args=>(Rows.streamValuesSpec.pre enc prog Tryz.f3 Rows.streamValuesRow.domain false w args∧laidMetH prog Rows.streamValuesRow.laid w)∧sizedMet enc prog Tryz.f3 (OpenSpec.ofChange Rows.streamValuesSpec) false w args)
   (Rows.streamValuesSpec.post enc prog Tryz.f3 false true false false):=by
 refine returnsInHanded_of_change_and (C:=Tryz.checked) (X:=fun w _=>laidMetH prog Rows.streamValuesRow.laid w) (fun _ _ _ hh h=>h.of_heap hh) own started syn.kq func3
  (ChangeSpec.witness_shaped (enc:=enc) (C:=Tryz.checked) (os:=os) (X:=fun w _=>laidMetH prog Rows.streamValuesRow.laid w) false (World.laidAll prog os Rows.streamValuesRow.laid) #[.agg #[.slice none 0 0,.slice none 0 0,.slice none 0 0,.slice none 0 0],.slice none 0 0,.int .u8 0] 8 (World.laidAll_os _ _ _)
   (World.shaped_of_ZipB syn.kq syn.kq) syn.kq syn.kq syn.kq
   (by rw[MakeChecks.laidMetH_plain _ _ _ syn.kq];exact laidMet_laidAll _ syn.kq syn.kq)) ?_
 intro W base args ds gs before hval0 hW hcnd hsz _ _;have hval:∀(j:Nat) t v,Tryz.f3.params[j]?=some t→args[j]?=some v→Value.okWide prog W .any base t v:=hval0;have hW':=hW;obtain⟨p,q,hA0,hV,rfl,hfz,hnd⟩:=hW;have hA:DataW.TrodAll enc prog W 0 (fun _=>true) true Tryz.f3.params.toList args.toList ds p:=hA0;rw[params3] at hA hval;obtain⟨v0,vs0,d0,ds0,q0,qs0,hargs,rfl,rfl,h0,r0⟩:=trodAll_cons hA;obtain⟨v1,vs1,d1,ds1,q1,qs1,rfl,rfl,rfl,h1,r1⟩:=trodAll_cons r0;obtain⟨v2,vs2,d2,ds2,q2,qs2,rfl,rfl,rfl,h2,r2⟩:=trodAll_cons r1;obtain⟨rfl,rfl,rfl⟩:=trodAll_nil r2;obtain rfl:args=#[v0,v1,v2]:=by cases args;simp_all
 obtain⟨rfl,rfl⟩:=trodVars_none hV;have k0:=h0;have lt0:∀x∈q0,x.block<W.heap.size:=by obtain⟨m,hm⟩:=k0;exact DataW.trod_lt m _ _ _ hm
 have k1:=h1;have lt1:∀x∈q1,x.block<W.heap.size:=by obtain⟨m,hm⟩:=k1;exact DataW.trod_lt m _ _ _ hm
 have k2:=h2;have lt2:∀x∈q2,x.block<W.heap.size:=by obtain⟨m,hm⟩:=k2;exact DataW.trod_lt m _ _ _ hm
 obtain⟨c00,c01,c02,c03,y00,y01,y02,y03,n0,rfl,rfl,hq0,t00,t01,t02,t03⟩:=open_agg4 underlying27 syn.kq syn.kq (hval 0 27 v0 rfl rfl) h0;obtain⟨fuel0,hf0⟩:=k0;obtain⟨p0,an0,ai0,af0,ao0,cn0,ci0,cf0,co0,hp0,hcs0⟩:=Zed hf0;simp[Value.cells] at hcs0;have k0:=h0;obtain⟨rfl,rfl,rfl,rfl⟩:=hcs0;have hz0:NZ W p0.nodes an0:=Zcu hp0.nodes t00 (fun b off hm=>hfz b off (by rw[hq0];simp only[List.mem_append];exact Or.inl (Or.inl (Or.inl hm))));have hs0:vj p0:=⟨small_field hsz (j:=0) (k:=0) (by rfl) (by rfl) underlying27 (by rfl) underlying22 syn.kq (by rfl) t00,small_field hsz (j:=0) (k:=1) (by rfl) (by rfl) underlying27 (by rfl) underlying23 syn.kq (by rfl) t01,
  small_field hsz (j:=0) (k:=2) (by rfl) (by rfl) underlying27 (by rfl) underlying24 syn.kq (by rfl) t02,small_field hsz (j:=0) (k:=3) (by rfl) (by rfl) underlying27 (by rfl) underlying25 syn.kq (by rfl) t03⟩
 obtain⟨ain0,yT,cin0,rfl⟩:=okWide_slice underlying28 (hval 1 28 v1 rfl rfl);obtain⟨fuel1,hf1⟩:=k1;obtain⟨inl1,ain1,cin1,hin1,hb1,hcs1⟩:=open_ll hf1;have k1:=h1;simp[Value.cells] at hcs1;obtain⟨rfl,rfl,rfl⟩:=hcs1;obtain⟨a2,rfl,rfl,rfl,w2⟩:=open_int underlying5 (hval 2 5 v2 rfl rfl) h2;obtain⟨un,rfl,hun⟩:=u8_nat w2;clear hA0 hval0;refine(uV an0 ai0 af0 ao0 _ _ _ _ cn0 ci0 cf0 co0 (fun W' hb=>(Zca (w:=W') p0 an0 ai0 af0 ao0 cn0 ci0 cf0 co0 (hp0.below hb) (hz0.below hp0.nodes hb) hs0).mono (fun x w' h=>⟨ZfD h.1,h.2⟩)) inl1 _ _ hin1 hb1 un hun).mono fun e W' ⟨he,bel⟩=>?_
 subst he;exact⟨_,rfl,_,_,_,[],_,[],hW',trodAll_mk1 (shut_bool underlying4 _),(trodAll_cons_mk (Below.trod laidOut syn.kq (syn.Yh syn.kq) k0 bel lt0) (trodAll_cons_mk (Below.trod laidOut syn.kq (syn.Yh syn.kq) k1 bel lt1) (trodAll_cons_mk (Below.trod laidOut syn.kq (syn.Yh syn.kq) k2 bel lt2) trodAll_mk0))),rfl,bel.frame _,fun h=>by cases h⟩
theorem over:Rows.streamValuesRow.holds Tryz.pinned (OpenSpec.ofChange Rows.streamValuesSpec) :=
 OpenClaim.holds_of_wide 3 Tryz.f3 rfl rfl rfl rfl rfl rfl rfl ⟨rfl,rfl,rfl,rfl,rfl⟩ rfl rfl rfl rfl rfl syn.kq func3 jf
  (syn.Yh syn.kq) (by unfold Func.isWrapper;first|(rw[syn.Z0 (by decide +kernel)];kernel_rfl)|(rw[syn.ZZ (by decide +kernel)];exact⟨rfl,rfl⟩))
  (fun os started H enc _=>lifted os started H enc)
theorem proved:Rows.StreamValuesCardSaid :=
 Claim7.holds_tied_plain_at .later [] [.data,.data,.data] true (true,_) true over (fun _ h=>by cases h) syn.kq (fun _ h=>by cases h) streamValues_row_tie rfl ⟨rfl,rfl⟩ syn.kq rfl
  (fun f fn hf hfn=>by
   obtain rfl : f = 3 := Option.some.inj ((show prog.funcNamed "horarium/horariumlaw10.StreamValues" = some 3 by kernel_rfl).symm.trans hf) |>.symm
   obtain rfl:fn=Tryz.f3:=(Option.some.inj (func3.symm.trans hfn)).symm;exact⟨by kernel_rfl,fun j t ht=>by
    rw[params3] at ht;have hm:t∈[27,28,5]:=by simpa using Array.mem_of_getElem? ht
    have hall:([27,28,5].all fun u=>!prog.wantsStandIn u)=true:=by kernel_rfl
    exact(show prog.wantsStandIn t=false by simpa using List.all_eq_true.1 hall t hm)⟩)
  syn.kq
end Go.Proofs.YtdgifkjaflfdeaaGreatDoor.streamValues
