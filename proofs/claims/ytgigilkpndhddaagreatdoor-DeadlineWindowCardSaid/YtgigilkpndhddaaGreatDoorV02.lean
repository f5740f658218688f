/- Parts of the proof. -/
import Derived.BigRegionIn
import Derived.Deep.RegionHeld3
import Derived.StillTailTactics
import Derived.Test.YtgigilkpndhddaaGreatDoorV00
set_option linter.all false
set_option maxRecDepth 100000
set_option maxHeartbeats 16000000
namespace Go.Proofs.YtgigilkpndhddaaGreatDoor.syn
open Tryz
open Go.RowKit
theorem uR{F:Fence}{n l:Nat}{P:Program}{o:Oper}{a:Act}{w:World}{K:Act→World→Prop}{Q:Exit→Act→World→Prop}(f:F.round=none)(hd:∀c,o.op≠.defer c)(h:o.wpIn F n P a w K Q):o.wpIn (F.inRound l) n P a w K Q:=by
 unfold Oper.wpIn at *;rw[f,Oper.semAt_none] at h;rw[Oper.semAt_eq _ _ _ hd];refine⟨h.1,?_⟩;have g:=h.2;generalize (execOp a.eval o).run P w=r at *
 cases r with
 | ok x w'=>cases x<;>exact g
 | halt x w'=>cases x<;>exact g
theorem zt{F:Fence}{n l:Nat}{P:Program}{md:Region.Mode}{ops:Array Oper}{Q:Exit→Act→World→Prop}(g:F.round=none)(hd:∀(i:Nat)(o:Oper),ops[i]?=some o→∀c,o.op≠.defer c) :
  ∀(fuel:Nat)(listed:Array Bool)(a:Act)(w:World),wpAnyIn F n P md ops Q fuel listed a w→wpAnyIn (F.inRound l) n P md ops Q fuel listed a w:=by
 intro fuel
 induction fuel with
 | zero=>intro listed a w h;exact h
 | succ fuel ih =>
  intro listed a w h;refine⟨h.1,fun i hi=>?_⟩;have f:=wpOpIn_mono (fun a' w' h'=>ih (listed.setIfInBounds i true) a' w' h') (h.2 i hi);unfold wpOpIn at *
  cases ho:ops[i]? with
  | none=>simp only[ho] at f ⊢;exact f
  | some o =>
   simp only[ho] at f ⊢;split
   ·rename_i hw
    simp only[hw,if_true] at f;exact uR g (hd i o ho) f
   rename_i hw
   simp only[hw] at f;exact f
def V7(o:Oper):Bool:=match o.op with|.defer _=>false|_=>true
theorem Kb{n l j:Nat}{P:Program}{ops:Array Oper}{Q:Exit→Act→World→Prop}{a:Act}{w:World}(g:P.follows .mixedOrders=true)(hd:ops.toList.all V7=true)
  (h:wpAnyIn Fence.wide n P .any ops Q ops.size (Array.replicate ops.size false) a { w with drawn:=w.drawn+1 }):(Code.region j ops true).wpIn (Fence.wide.inRound l) n P Q a w:=by
 refine wpIn_region_any g (zt rfl (fun i o ho c e=>?_) _ _ _ _ h);have f:o∈ops.toList:=by
  have:=Array.mem_of_getElem? ho;simpa using this
 have:=List.all_eq_true.1 hd o f;unfold V7 at this;rw[e] at this
 cases this
theorem jJ{n:Nat}{P:Program}{row:String}{args:Array Value}{w:World}{R:Value→World→Prop}(h:Rows P row args w R):RowsIn Fence.wide n P row args w R :=
 fun c cs _=>let ⟨v,w',r,s⟩:=h c cs;⟨v,w',r,stepsIn_wide.2 s⟩
theorem uw{n:Nat}{P:Program}{o:Oper}{a:Act}{w:World}{K:Act→World→Prop}{Q:Exit→Act→World→Prop}(h:o.wp P a w K Q):o.wpIn Fence.wide n P a w K Q:=by
 unfold Oper.wpIn Oper.wp at *;refine⟨fun _ _=>trivial,?_⟩;rw[show(Fence.wide).round=none from rfl,Oper.semAt_none];generalize (execOp a.eval o).run P w=r at *
 cases r with
 | ok x w' =>
  cases x<;>first|exact h|exact⟨(fun k=>nomatch k),callsIn_wide.2 h⟩|exact⟨(fun k=>nomatch k),jJ h⟩|exact h.elim
 | halt x w'=>cases x<;>first|exact h|exact h.elim
theorem xD{n:Nat}{P:Program}{ops:Array Oper}{Q:Exit→Act→World→Prop}{i:Nat}{K:Act→World→Prop}{a:Act}{w:World}(hlet:¬LetsOut Q)(h:wpOp P ops Q i K a w):wpOpIn Fence.wide n P ops Q i K a w:=by
 unfold wpOp at h;unfold wpOpIn
 cases ho:ops[i]? with
 | none=>simp only[ho] at h ⊢;exact h
 | some o =>
  simp only[ho] at h ⊢;split
  ·rename_i hw
   simp only[hw,if_true] at h;exact uw (h.resolve_right (fun k=>hlet k.2))
  rename_i hw
  simp only[hw] at h;exact⟨fun _ _=>trivial,h⟩
theorem Ul{n:Nat}{P:Program}{md:Region.Mode}{ops:Array Oper}{Q:Exit→Act→World→Prop}(hlet:¬LetsOut Q) :
  ∀(fuel:Nat)(listed:Array Bool)(a:Act)(w:World),wpAny P md ops Q fuel listed a w→wpAnyIn Fence.wide n P md ops Q fuel listed a w:=by
 intro fuel
 induction fuel with
 | zero=>intro listed a w h;exact h
 | succ fuel ih =>
  intro listed a w h;exact⟨h.1,fun i hi=>wpOpIn_mono (fun a' w' h'=>ih _ a' w' h') (xD hlet (h.2 i hi))⟩
theorem KX{ℓ n id:Nat}{P:Program}{Q:Exit→Act→World→Prop}{a:Act}{w:World}{l:List Oper}(k:Nat)(D:P.follows .mixedOrders=true)(hd:l.all V7=true)(hlet:¬LetsOut Q)(z:Region.lexTailB .any l.toArray k=true)
  (h:wpStill P l.toArray { w with drawn:=w.drawn+1 } (fun a'=>wpList P l.toArray Q (l.drop k) a' { w with drawn:=w.drawn+1 }) (l.take k) a):(Code.region id l.toArray true).wpIn (Fence.wide.inRound ℓ) n P Q a w:=by
 simp only[Region.lexTailB,Bool.and_eq_true,decide_eq_true_eq] at z;obtain⟨⟨⟨⟨v,A⟩,F⟩,C⟩,q⟩:=z;have E:k<l.length:=by simpa using A
 have f:(l.take k).length=k:=by simp;omega
 have m:(l.drop k).length=l.toArray.size-k:=by simp
 have x:HeadInv .any l.toArray k (Array.replicate l.toArray.size false) :=
  ⟨by simp,fun j oj _ hl=>(by rw[getD_replicate_false] at hl;cases hl),fun t _ ht=>getD_in (by simpa using ht) (getD_replicate_false _ _)⟩
 have H:=wpAnyL_lex (md:=.any) (g:=l.toArray.size-k) v F C A (l.take k) 0 _ a (fun j hj=>by
  have y:j<k:=by rw[f] at hj;exact hj
  simp[y]) (by simpa using f) x (by rw[f];exact q) h
 refine Kb D (by simpa using hd) (Ul hlet _ _ _ _ ?_);have:=wpAny_of_head (Q':=Q) (g:=l.toArray.size-k) (fun listed a' hL=>by
  have:=wpAny_of_seq (md:=.any) (Q':=Q) (l.drop k) k listed a' { w with drawn:=w.drawn+1 } (fun j=>by simp[List.getElem?_drop]) (by rw[m];exact hL.1) hL.2
  rwa [m] at this) _ _ _ H
 rw[f,show k+(l.toArray.size-k)=l.toArray.size by omega] at this;exact this
theorem zx{ℓ n id:Nat}{P:Program}{ops:Array Oper}{Q:Exit→Act→World→Prop}{a:Act}{w:World}(hm:P.follows .mixedOrders=true)(hd:ops.toList.all V7=true)(hlet:¬LetsOut Q)
  (h:wpAny P .any ops Q ops.size (Array.replicate ops.size false) a { w with drawn:=w.drawn+1 }):(Code.region id ops true).wpIn (Fence.wide.inRound ℓ) n P Q a w :=
 Kb hm hd (Ul hlet _ _ _ _ h)
end Go.Proofs.YtgigilkpndhddaaGreatDoor.syn
