/- Parts of the proof. -/
import Derived.Test.YtlhlcdjiafdoeaaGreatDoorV26
import Derived.Test.YtlhlcdjiafdoeaaGreatDoorV30
import Derived.Test.YtlhlcdjiafdoeaaGreatDoorV33
set_option linter.all false
set_option maxRecDepth 100000
set_option maxHeartbeats 16000000
namespace Go.Proofs.YtlhlcdjiafdoeaaGreatDoor.syn
open Go.RowKit
theorem vM {T:Nat}:∀(n:Nat) (s:WS) (l:List Int),WOk T s→(∀x∈l,0≤x∧x<(T:Int))→(∀x∈YY n s l,0≤x∧x<(T:Int))∧(YY n s l).length≤l.length+n:=by
 intro n
 induction n with
 | zero=>intro s l _ h;exact⟨h,Zc _⟩
 | succ n ih =>
  intro s l hs h
  rw[YY]
  split
  ·exact⟨h,oq⟩
  rename_i hq
  obtain⟨h1,h2⟩:=hs.next hq
  obtain⟨h3,h4⟩:=ih _ (l++[(YH s).1]) h2 (fun x hx=>by
   rcases List.mem_append.1 hx with hx|hx
   ·exact h x hx
   rw[List.mem_singleton.1 hx];exact h1)
  refine⟨h3,?_⟩
  rw[Zw,Zp,Zv] at h4
  omega
theorem Zbz {f:FD} {l:List Int} (h:ofP f=some l):(∀x∈l,0≤x∧x<(f.tasks.length:Int))∧l.length≤2*f.tasks.length:=by
 unfold ofP at h
 split at h
 ·cases h
 cases h
 rw[Ea]
 obtain⟨h1,h2⟩:=vM (muW (Y2 f f.tasks.length)) _ [] (J7 f f.tasks.length (Zc _)) (fun x hx=>by cases hx)
 refine⟨h1,?_⟩
 have h3:=J8 f f.tasks.length
 have h4:=(J7 f f.tasks.length (Zc _)).many
 have h5:=List.countP_le_length (p:=fun x:Int=>decide (0<x)) (l:=(Y2 f f.tasks.length).many)
 have h6:muW (Y2 f f.tasks.length)≤2*f.tasks.length:=by unfold muW;omega
 have h7:([]:List Int).length=0:=rfl
 omega
theorem Zax {w:World} {B:Nat} {a:Option Addr} {c n:Nat} {l:List Int} (h:QV w B (.slice a n c) l) (hp:∀x∈l,0≤x):n=l.length∧Jq w (fun t:Nat=>Value.int .i64 (t:Int)) a (l.map Int.toNat):=by
 have h2:w.ownsRow B 3 1 (.slice a n c) l.length (ints l):=h
 rcases h2.2 with ⟨e,hn⟩|⟨g,cap,cur,e,hb,hg,_⟩
 ·cases e
  rw[Yb hn]
  exact⟨rfl,.inl rfl⟩
 injection e with e1 e2 e3
 subst e1
 subst e2
 subst e3
 refine⟨rfl,.inr ⟨g,0,rfl,Zb hg,fun i x hx=>?_⟩⟩
 rw[ZC]
 rw[List.getElem?_map,Option.map_eq_some_iff] at hx
 obtain⟨y,hy,rfl⟩:=hx
 refine(World.ownsRow.cellAt h2 i (by rw[Z6];exact(Zz.1 hy).1)).trans ?_
 have h0:=hp y (Z8 hy)
 have e:((y.toNat:Nat):Int)=y:=oq
 show _=some (Value.int .i64 ((y.toNat:Nat):Int))
 rw[e]
 simp[ints,hy]
theorem zZ:(Tryz.prog.info? 54).map (fun i=>(i.zero,i.size,i.bytes))=some (some (.slice none 0 0),1,24):=by kernel_rfl
theorem KX (u:Int) (w:World):Calls Tryz.prog 29 #[.int .i64 u] w fun x w'=>x=.returned (.bool (decide (0≤u∧u≤20000)))∧w'=w:=by
 by_cases h0:0≤u
 ·by_cases h1:u≤20000
  ·rw[ZY (show 0≤u∧u≤20000 from ⟨h0,h1⟩)]
   go_enter Tryz.func29,Tryz.ntmps29
   go_wp2
   go_ret
   exact⟨rfl,rfl⟩
  rw[ZX (show ¬(0≤u∧u≤20000) from fun h=>h1 h.2)]
  go_enter Tryz.func29,Tryz.ntmps29
  go_wp2
  go_ret
  exact⟨rfl,rfl⟩
 rw[ZX (show ¬(0≤u∧u≤20000) from fun h=>h0 h.1)]
 go_enter Tryz.func29,Tryz.ntmps29
 go_wp2
 go_ret
 exact⟨rfl,rfl⟩
theorem Gj (ni:Nat) (inl:List (List Int)) (nds:List NE) (tks:List TD) (order:List Nat) (n:Nat):Xi ni inl nds tks order (n+1)=JY ni inl nds tks order (n:Int) (Xi ni inl nds tks order n):=by
 unfold Xi
 rw[List.range_succ,List.foldl_append]
 rfl
theorem Bv.step {ni:Nat} {inl:List (List Int)} {m':Nat} (h1:Bv m' inl) {nds:List NE} {tks:List TD} (hn:jP tks) (ho:∀n∈nds,n.ok) (date:Int):∀(order:List Nat) (m:Nat) (vals:List (List Int)),Bv m vals→Bv (m+order.length) (JY ni inl nds tks order date vals)
 | [],m,vals,h=>h
 | t::order,m,vals,h=>by
  have:=Bv.step (ni:=ni) h1 hn ho date order (m+1) _ (Bv.turn h1 h hn ho date t (ni:=ni))
  rw[Zp,show m+(order.length+1)=m+1+order.length by omega]
  exact this
def BxS (b:Nat) (v0 v1 v2 v3:Value) (w':World):Prop:=w'.cell? ⟨b,0,none⟩=some v0∧w'.cell? ⟨b,1,none⟩=some v1∧w'.cell? ⟨b,2,none⟩=some v2∧w'.cell? ⟨b,3,none⟩=some v3
structure xC (w:World) (f:FD) (an:Option Addr) (nds:List NE):Prop where
 row:Row NdE 10 w nds an
 len:nds.length=f.nods.length
 ok:∀n∈nds,n.ok
 nums:jP f.tasks
theorem xC.below {w w':World} {f:FD} {an:Option Addr} {nds:List NE} (h:xC w f an nds) (hb:Below w.heap.size w w'):xC w' f an nds:=⟨h.row.below qw hb,h.len,h.ok,h.nums⟩
theorem uc {f:FD} (h:YQ f=true) {nds:List NE} (hl:nds.length=f.nods.length) (ha:∀t∈f.tasks,t.args.length≤1000):ZaU f.ins.length nds f.tasks:=by
 unfold YQ at h
 simp only[ZA,List.all_eq_true,Yh] at h
 obtain⟨_,_,h3,_,h5⟩:=h
 have key:∀d∈f.tasks,(∃k:Nat,d.node=(k:Int)∧k<nds.length)∧∀a∈d.args,(Q2 f a.src).isSome=true∧a.ops.length≤20:=by
  intro d hd
  have h6:=h3 d hd
  by_cases hk:d.node<0∨(f.nods.length:Int)≤d.node
  ·rw[Ve hk] at h6;cases h6
  have h7:d.node.toNat<f.nods.length:=oq
  have h8:d.node=(d.node.toNat:Int):=oq
  rw[UF h7 h8] at h6
  simp only[ZA,List.all_eq_true,Yh] at h6
  refine⟨⟨d.node.toNat,h8,oq⟩,fun a ha=>?_⟩
  have h9:=h6.2.2 a ha
  unfold X4 at h9
  cases hs:Q2 f a.src with
  | none=>rw[hs] at h9;cases h9
  | some s =>
   rw[hs] at h9
   simp only[ZA,Yh] at h9
   exact⟨rfl,h9.1⟩
 refine⟨oq,fun d hd=>(key d hd).1,fun d hd=>⟨ha d hd,fun a ha=>?_⟩⟩
 obtain⟨h1,h2⟩:=(key d hd).2 a ha
 refine⟨?_,?_,oq⟩
 ·by_cases h0:a.src<0
  ·rw[zj h0] at h1;cases h1
  omega
 by_cases h0:a.src<0
 ·rw[zj h0] at h1;cases h1
 by_cases h4:a.src<(f.ins.length:Int)
 ·omega
 have:=xb h1 oq
 omega
theorem ua {f:FD} (h:YQ f=true):f.tasks.length≤30:=by
 unfold YQ at h
 simp only[ZA,List.all_eq_true,Yh] at h
 exact h.2.2.2.2
def Zbe (w:World) (f:FD) (nds:List NE) (ain:Option Addr) (inl:List (List Int)) (l:List Int) (U:Nat) (x:Ending) (w':World):Prop :=
 ∃wI W0 mb vb ai an aT ci cn ct cin cv vs,x=.returned (.tuple #[.pointer (some ⟨mb,0,none⟩),.int .i64 0])∧Below w.heap.size w wI∧StM wI W0 w' mb vb ai an aT f.ins.length ci cn f.nods.length f.tasks ct ain inl cin cv vs (Xi f.ins.length inl nds f.tasks (l.map Int.toNat) U)∧Bv 2000000 (Xi f.ins.length inl nds f.tasks (l.map Int.toNat) U)
def Un (w:World) (f:FD) (nds:List NE) (ain:Option Addr) (inl:List (List Int)) (u:Int) (x:Ending) (w':World):Prop :=
 if YQ f=true∧(0≤u∧u≤20000) then match ofP f with
  | none=>x=.returned (.tuple #[.pointer none,.int .i64 6])
  | some l=>Zbe w f nds ain inl l u.toNat x w'
 else x=.returned (.tuple #[.pointer none,.int .i64 12])
theorem yr {w:World} (f:FD) (ai an aT al:Option Addr) (ci cn ct cl:Nat) (hf:FAP w f ai an aT al) (nds:List NE) (hn:xC w f an nds) (inl:List (List Int)) (ain:Option Addr) (cin:Nat) (hin:Qj w ain inl) {m':Nat} (hbi:Bv m' inl) (u:Int) :
  Calls Tryz.prog 19 #[fv f ai an aT al ci cn ct cl,.slice ain inl.length cin,.int .i64 u] w fun x w'=>Un w f nds ain inl u x w'∧Below w.heap.size w w':=by
 have HRI:=hid (fun W (hb:Below w.heap.size w W)=>GC (w:=W) f ai an aT al ci cn ct cl (hf.below hb))
 have HOF:=hid (fun W (hb:Below w.heap.size w W)=>ZbA (w:=W) f ai an aT al ci cn ct cl (hf.below hb))
 have HAK:=hid (fun W=>KX u W)
 have HF:=hid hf
 have HN:=hid hn
 have HIN:=hid (Zh hin hbi)
 clear hf hn hin hbi
 unfold Un
 unfold fv at *
 obtain⟨ri,hri⟩:∃ri,YQ f=ri:=⟨_,rfl⟩
 obtain⟨ak,hak⟩:∃ak,decide (0≤u∧u≤20000)=ak:=⟨_,rfl⟩
 rw[hri] at HRI
 rw[hak] at HAK
 obtain⟨W1,hW1⟩:∃W1,w.alloc (.cells #[.slice ai f.ins.length ci,.slice an f.nods.length cn,.slice aT f.tasks.length ct,.slice al f.tells.length cl] 35)=W1:=⟨_,rfl⟩
 have hB:Below w.heap.size w W1:=by rw[←hW1];exact bq
 have hq0:W1.heap[w.heap.size]?=some (.cells #[.slice ai f.ins.length ci,.slice an f.nods.length cn,.slice aT f.tasks.length ct,.slice al f.tells.length cl] 35 (0,0)):=by rw[←hW1];exact Yt w _
 have hs1:W1.heap.size=w.heap.size+1:=by rw[←hW1];simp
 have HB:=hid hB
 have HQ0:=hid hq0
 obtain⟨⟨x0,x1,x2,x3⟩,xf⟩:=Yu hq0
 have hl0:w.heap.size<W1.heap.size:=oq
 clear hB hq0
 cases ri with
 | false =>
  have hcc:¬(YQ f=true∧(0≤u∧u≤20000)):=fun h=>by rw[hri] at h;cases h.1
  simp only[ZZ hcc]
  go_enter Tryz.func19,Tryz.ntmps19
  go_upto_region 1 with fail
  first|rw[hW1]|skip
  clear hW1
  go_wp2_with (go_at_call 50;refine(HRI.out _ HB.out).mono ?_;rintro x w2 ⟨rfl,hb2⟩;have HB2:=hid hb2;clear hb2)
  go_ret2
  exact⟨rfl,HB.out.trans (HB2.out.mono oq)⟩
 | true =>
  cases ak with
  | false =>
   have hcc:¬(YQ f=true∧(0≤u∧u≤20000)):=fun h=>by have:=ZY h.2;rw[hak] at this;cases this
   simp only[ZZ hcc]
   go_enter Tryz.func19,Tryz.ntmps19
   go_upto_region 1 with fail
   first|rw[hW1]|skip
   clear hW1
   go_wp2_with (first|(go_at_call 50;refine(HRI.out _ HB.out).mono ?_;rintro x w2 ⟨rfl,hb2⟩;have HB2:=hid hb2;clear hb2)|(go_at_call 29;refine(HAK.out _).mono ?_;rintro x w3 ⟨rfl,rfl⟩))
   go_ret2
   exact⟨rfl,HB.out.trans (HB2.out.mono oq)⟩
  | true =>
   have hu:=Yg hak
   have hcc:YQ f=true∧(0≤u∧u≤20000):=⟨hri,hu⟩
   simp only[Z0 hcc]
   clear hcc
   cases ho:ofP f with
   | none =>
    rw[ho] at HOF
    simp only[uI] at HOF
    simp only
    go_enter Tryz.func19,Tryz.ntmps19
    go_upto_region 1 with fail
    first|rw[hW1]|skip
    clear hW1
    go_wp2_with (first|(go_at_call 50;refine(HRI.out _ HB.out).mono ?_;rintro x w2 ⟨rfl,hb2⟩;have HB2:=hid (HB.out.trans (hb2.mono oq));obtain⟨⟨y0,y1,y2,y3⟩,yf⟩:=Yu ((hb2.block _ hl0).trans HQ0.out);clear hb2)|(go_at_call 29;refine(HAK.out _).mono ?_;rintro x w3 ⟨rfl,rfl⟩)|(go_at_call 51;refine(HOF.out _ HB2.out).mono ?_;rintro x w4 ⟨rfl,hb4⟩;have HB4:=hid (HB2.out.trans (hb4.mono HB2.out.size));clear hb4))
    go_ret2
    exact⟨rfl,HB4.out⟩
   | some l =>
    rw[ho] at HOF
    simp only[uI] at HOF
    simp only
    obtain⟨U,rfl⟩:∃U:Nat,u=(U:Int):=⟨u.toNat,oq⟩
    simp only[ZP]
    have hU:U≤20000:=oq
    obtain⟨hlr,hll⟩:=Zbz ho
    have hT30:=ua hri
    have HTO:=hid (uc hri HN.out.len (fun t ht=>(HF.out.args t ht).1))
    have hmk:=fun W=>run_make_row' (P:=Tryz.prog) 28 54 (.slice none 0 0) 24 Tryz.underlying28 zZ rfl .i64 .i64 f.tasks.length oq oq W
    have HLR:=hid hlr
    clear hri hak ho hlr
    go_enter Tryz.func19,Tryz.ntmps19
    go_upto_region 1 with fail
    first|rw[hW1]|skip
    clear hW1
    go_upto_region 6 with (first|(go_at_call 50;refine(HRI.out _ HB.out).mono ?_;rintro x w2 ⟨rfl,hb2⟩;have HB2:=hid (HB.out.trans (hb2.mono oq));have hs2:=hb2.size;have HQ2:=hid ((hb2.block _ hl0).trans HQ0.out);obtain⟨⟨y0,y1,y2,y3⟩,yf⟩:=Yu HQ2.out;clear hb2)|(go_at_call 29;refine(HAK.out _).mono ?_;rintro x w3 ⟨rfl,rfl⟩)|(go_at_call 51;refine(HOF.out _ HB2.out).mono ?_;rintro x w4 ⟨⟨v4,rfl,hq4⟩,hb4⟩;have HB4:=hid (HB2.out.trans (hb4.mono HB2.out.size));have hs4:=hb4.size;obtain⟨a4,c4,rfl⟩:=YD hq4;have HO4:=hid (Zax hq4 (fun x hx=>(HLR.out x hx).1)).2;obtain⟨⟨z0,z1,z2,z3⟩,zf⟩:=Yu ((hb4.block _ oq).trans HQ2.out);clear hb4 hq4))
    clear x0 x1 x2 x3 xf y0 y1 y2 y3 yf HRI HOF HAK HQ0 HQ2 zf
    have d0:w4.drew.cell? ⟨w.heap.size,0,none⟩=_:=z0
    have d1:w4.drew.cell? ⟨w.heap.size,1,none⟩=_:=z1
    have d2:w4.drew.cell? ⟨w.heap.size,2,none⟩=_:=z2
    have d3:w4.drew.cell? ⟨w.heap.size,3,none⟩=_:=z3
    have hlw:w.heap.size<w4.heap.size:=oq
    have KS:=hid (fun(w':World) (h:w'.heap[w.heap.size]?=w4.heap[w.heap.size]?)=>(show BxS w.heap.size (.slice ai f.ins.length ci) (.slice an f.nods.length cn) (.slice aT f.tasks.length ct) (.slice al f.tells.length cl) w' from ⟨(Zn (w:=w4) (a:=⟨w.heap.size,0,none⟩) h).trans z0,(Zn (w:=w4) (a:=⟨w.heap.size,1,none⟩) h).trans z1,(Zn (w:=w4) (a:=⟨w.heap.size,2,none⟩) h).trans z2,(Zn (w:=w4) (a:=⟨w.heap.size,3,none⟩) h).trans z3⟩))
    clear z0 z1 z2 z3
    refine ZN (S:=BxS w.heap.size (.slice ai f.ins.length ci) (.slice an f.nods.length cn) (.slice aT f.tasks.length ct) (.slice al f.tells.length cl)) kq (by first|exact KS.out _ rfl|exact KS.out _ (Za w4.drew _ _ hlw)|exact KS.out _ ((Za _ _ _ (by simp;omega)).trans (Za w4.drew _ _ hlw))) (fun hHeld=>?_)
    refine tk 0 hHeld ?_
    refine tk 1 hHeld ?_
    refine tk 2 hHeld ?_
    refine tk 3 hHeld ?_
    refine tk 4 hHeld ?_
    refine ry 5 fun K hK=>?_
    go_simp
    refine hK.out _ _ (fun hHeld=>?_) (by first|exact KS.out _ rfl|exact KS.out _ (Za w4.drew _ _ hlw)|exact KS.out _ ((Za _ _ _ (by simp;omega)).trans (Za w4.drew _ _ hlw)))
    clear hK K
    refine tk 6 hHeld ?_
    refine ry 7 fun K hK=>?_
    go_simp
    refine hK.out _ _ (fun hHeld=>?_) (by first|exact KS.out _ rfl|exact KS.out _ (Za w4.drew _ _ hlw)|exact KS.out _ ((Za _ _ _ (by simp;omega)).trans (Za w4.drew _ _ hlw)))
    clear hK K
    refine tk 8 hHeld ?_
    refine Zx kq ?_ _
    obtain⟨X,hX⟩:∃X,(w4.alloc (.cells (madeCells #[.slice none 0 0] f.tasks.length) 54)).alloc (.cells #[.slice ai f.ins.length ci,.slice an f.nods.length cn,.slice aT f.tasks.length ct,.slice al f.tells.length cl,.slice ain inl.length cin,.slice (some ⟨w4.heap.size,0,none⟩) f.tasks.length f.tasks.length] 72)=X:=⟨_,rfl⟩
    rw[hX]
    obtain⟨W0,hW0⟩:∃W0,X.drew=W0:=⟨_,rfl⟩
    have HST:=hid (show StM w4 W0 W0 (w4.heap.size+1) w4.heap.size ai an aT f.ins.length ci cn f.nods.length f.tasks ct ain inl cin f.tasks.length (List.replicate f.tasks.length (.slice none 0 0)) (Xi f.ins.length inl nds f.tasks (l.map Int.toNat) 0) from by
     have e0:Xi f.ins.length inl nds f.tasks (l.map Int.toNat) 0=List.replicate f.tasks.length []:=rfl
     have hr1:W0.heap[w4.heap.size+1]?=some (.cells #[.slice ai f.ins.length ci,.slice an f.nods.length cn,.slice aT f.tasks.length ct,.slice al f.tells.length cl,.slice ain inl.length cin,.slice (some ⟨w4.heap.size,0,none⟩) f.tasks.length f.tasks.length] 72 (0,0)):=by
      rw[←hW0]
      show X.heap[w4.heap.size+1]?=_
      rw[←hX]
      have h:=Yt (w4.alloc (.cells (madeCells #[.slice none 0 0] f.tasks.length) 54)) (.cells #[.slice ai f.ins.length ci,.slice an f.nods.length cn,.slice aT f.tasks.length ct,.slice al f.tells.length cl,.slice ain inl.length cin,.slice (some ⟨w4.heap.size,0,none⟩) f.tasks.length f.tasks.length] 72)
      rwa [Zt] at h
     have hr0:W0.heap[w4.heap.size]?=some (.cells (List.replicate f.tasks.length (.slice none 0 0)).toArray 54 (0,0)):=by
      rw[←hW0,←VA]
      show X.heap[w4.heap.size]?=_
      rw[←hX]
      exact(Za _ _ _ (by simp)).trans (Yt w4 _)
     have hs0:W0.heap.size=w4.heap.size+2:=by rw[←hW0];show X.heap.size=_;rw[←hX];simp
     have hc:∀o v,(#[.slice ai f.ins.length ci,.slice an f.nods.length cn,.slice aT f.tasks.length ct,.slice al f.tells.length cl,.slice ain inl.length cin,.slice (some ⟨w4.heap.size,0,none⟩) f.tasks.length f.tasks.length]:Array Value)[o]?=some v→W0.cell? ⟨w4.heap.size+1,o,none⟩=some v:=fun o v h=>(Z5 W0 _ _ _ _ _ hr1).trans h
     refine⟨?_,But.refl _ _,⟨oq,oq,oq,oq,oq⟩,hc _ _ rfl,hc _ _ rfl,hc _ _ rfl,hc _ _ rfl,by rw[e0,List.length_replicate];exact hc _ _ rfl,hr0,?_⟩
     ·rw[←hW0,←hX]
      exact(((Zg _ _).alloc (Zc _) _).alloc (by simp) _).drew
     rw[e0,List.map_replicate]
     exact Fam.nils _ _ _ _)
    have HB0:=hid (show Below w.heap.size w W0 from HB4.out.trans ((show Below w4.heap.size w4 W0 from HST.out.old).mono HB4.out.size))
    rw[hW0]
    clear hW0 hX hmk KS hHeld
    have hlm:(l.map Int.toNat).length=l.length:=Zo _
    go_wp2
    go_loopw [37] (fun s37 wr=>Hid (∃n vs,s37=.int .i64 ((n:Nat):Int)∧n≤U∧Bv (n*60) (Xi f.ins.length inl nds f.tasks (l.map Int.toNat) n)∧StM w4 W0 wr (w4.heap.size+1) w4.heap.size ai an aT f.ins.length ci cn f.nods.length f.tasks ct ain inl cin f.tasks.length vs (Xi f.ins.length inl nds f.tasks (l.map Int.toNat) n))) (fun s _=>U-(intOf s).toNat)
    case atStart=>exact⟨0,_,rfl,Zk _,by intro l hl;rw[show Xi f.ins.length inl nds f.tasks _ 0=List.replicate f.tasks.length [] from rfl] at hl;rw[(List.mem_replicate.1 hl).2];exact⟨by simp,fun x hx=>by cases hx⟩,HST.out⟩
    clear HST
    obtain⟨wo,rfl⟩:∃wo:World,wo=wr:=⟨_,rfl⟩
    obtain⟨n,vs,rfl,hnU,hbv,hst⟩:=hrel.out
    clear hrel
    by_cases hlt:n<U
    ·have hn4:=HN.out.below HB4.out
     have hstp:=gP hst (HIN.out.1.keep HB4.out.block) hn4.len hn4.row hn4.ok ((HF.out.below HB4.out).tasks) HTO.out hn4.nums (Eh _ _ _ _ _ _) HIN.out.2 hbv oq (l.map Int.toNat) a4 c4 (by rw[hlm];omega) HO4.out (fun t ht=>by
      obtain⟨y,hy,rfl⟩:=Yc.1 ht
      have:=HLR.out y hy
      omega) (n:Int)
     rw[hlm] at hstp
     rw[←Gj] at hstp
     have hbv2:=Bv.step HIN.out.2 hn4.nums hn4.ok (n:Int) (l.map Int.toNat) _ _ hbv (ni:=f.ins.length)
     rw[←Gj,hlm] at hbv2
     have HBV:=hid (show Bv ((n+1)*60) (Xi f.ins.length inl nds f.tasks (l.map Int.toNat) (n+1)) from fun l' hl'=>⟨by have:=(hbv2 l' hl').1;omega,(hbv2 l' hl').2⟩)
     have HSTP:=hid hstp
     have i1:(n:Int)<(U:Int):=oq
     clear hbv hst hn4 hstp hbv2
     go_wp2_with (go_at_call 52;refine HSTP.out.mono ?_;rintro y w6 ⟨rfl,vs6,hst6⟩;have HS6:=hid hst6;clear hst6)
     exact⟨hid ⟨n+1,vs6,by rw[show((n+1:Nat):Int)=(n:Int)+1 by omega],hlt,HBV.out,HS6.out⟩,by show U-((n:Int)+1).toNat<U-(n:Int).toNat;omega⟩
    obtain rfl:n=U:=oq
    have hi2:¬(n:Int)<(n:Int):=oq
    have HS:=hid hst
    have HBV:=hid (show Bv 2000000 (Xi f.ins.length inl nds f.tasks (l.map Int.toNat) n) from fun l' hl'=>⟨by have:=(hbv l' hl').1;omega,(hbv l' hl').2⟩)
    clear hst hbv
    go_wp2
    go_ret2
    refine⟨⟨w4,W0,_,_,_,_,_,_,_,_,_,_,_,rfl,HB4.out,HS.out,HBV.out⟩,?_⟩
    exact HB0.out.trans (HS.out.but.below HB0.out.size (fun k e=>by have:=HB4.out.size;omega))
def JK (f:FD) (u:Int):Int:=if YQ f=true∧(0≤u∧u≤20000) then (match ofP f with|none=>6|some _=>0) else 12
def J1 (f:FD) (nds:List NE) (inl:List (List Int)) (u:Int):List (List Int):=Xi f.ins.length inl nds f.tasks (((ofP f).getD []).map Int.toNat) u.toNat
theorem Zay {w w':World} {f:FD} {nds:List NE} {ain:Option Addr} {inl:List (List Int)} {u:Int} {x:Ending} (h:Un w f nds ain inl u x w') (he:JK f u=0):∃wI W0 mb vb ai an aT ci cn ct cin cv vs,x=.returned (.tuple #[.pointer (some ⟨mb,0,none⟩),.int .i64 0])∧Below w.heap.size w wI∧StM wI W0 w' mb vb ai an aT f.ins.length ci cn f.nods.length f.tasks ct ain inl cin cv vs (J1 f nds inl u)∧Bv 2000000 (J1 f nds inl u):=by
 unfold Un at h
 unfold JK at he
 unfold J1
 split at h
 ·rename_i hc
  rw[Z0 hc] at he
  cases ho:ofP f with
  | none=>rw[ho] at he;cases he
  | some l=>rw[ho] at h;exact h
 rename_i hc
 rw[ZZ hc] at he
 cases he
theorem ZbM {w w':World} {f:FD} {nds:List NE} {ain:Option Addr} {inl:List (List Int)} {u:Int} {x:Ending} (h:Un w f nds ain inl u x w') (he:JK f u≠0):x=.returned (.tuple #[.pointer none,.int .i64 (JK f u)]):=by
 unfold Un at h
 unfold JK at he ⊢
 split at h
 ·rename_i hc
  rw[Z0 hc] at he ⊢
  cases ho:ofP f with
  | none=>rw[ho] at h;exact h
  | some l=>rw[ho] at he;exact absurd rfl he
 rename_i hc
 rw[ZZ hc]
 exact h
theorem ux (f:FD) (nds:List NE) (inl:List (List Int)) (u:Int):(J1 f nds inl u).length=f.tasks.length:=Eh _ _ _ _ _ _
def XO (p f u:Int):Int:=if clock.YA p f=true∧(0≤u∧u≤20000)∧f<u then (u-1-f).tdiv p+1 else 0
theorem JB {p f:Int} (h:clock.YA p f=true):1≤p∧p≤2000∧0≤f∧f≤2000:=by
 by_cases h1:1≤p∧p≤2000∧0≤f∧f≤2000
 ·exact h1
 rw[clock.JX h1] at h;cases h
theorem KR (p f u:Int) (w:World):Calls Tryz.prog 13 #[.agg #[.int .i64 p,.int .i64 f],.int .i64 u] w fun x w'=>x=.returned (.int .i64 (XO p f u))∧Below w.heap.size w w':=by
 have HRI:=hid (fun W=>V2 p f W)
 have HAK:=hid (fun W=>KX u W)
 obtain⟨rb,hrb⟩:∃rb,clock.YA p f=rb:=⟨_,rfl⟩
 obtain⟨ak,hak⟩:∃ak,decide (0≤u∧u≤20000)=ak:=⟨_,rfl⟩
 rw[hrb] at HRI
 rw[hak] at HAK
 obtain⟨W1,hW1⟩:∃W1,w.alloc (.cells #[.int .i64 p,.int .i64 f] 50)=W1:=⟨_,rfl⟩
 have hB:Below w.heap.size w W1:=by rw[←hW1];exact bq
 have hq0:W1.heap[w.heap.size]?=some (.cells #[.int .i64 p,.int .i64 f] 50 (0,0)):=by rw[←hW1];exact Yt w _
 have hl0:=Zb hq0
 obtain⟨⟨x0,x1⟩,xf⟩:=YG hq0
 have HQ:=hid hq0
 have HB:=hid hB
 clear hB hq0
 cases rb with
 | false =>
  have e:XO p f u=0:=by unfold XO;rw[ZZ (fun h=>by rw[hrb] at h;cases h.1)]
  rw[e]
  clear e
  go_enter Tryz.func13,Tryz.ntmps13
  go_upto_region 1 with fail
  first|rw[hW1]|skip
  clear hW1
  go_wp2_with (go_at_call 28;refine(HRI.out _).mono ?_;rintro x w2 ⟨rfl,hb2⟩;have HB2:=hid hb2;clear hb2)
  go_ret
  exact⟨rfl,HB.out.trans (HB2.out.mono HB.out.size)⟩
 | true =>
  obtain⟨p1,p2,f1,f2⟩:=JB hrb
  cases ak with
  | false =>
   have e:XO p f u=0:=by unfold XO;rw[ZZ (fun h=>by have:=ZY h.2.1;rw[hak] at this;cases this)]
   rw[e]
   clear e
   go_enter Tryz.func13,Tryz.ntmps13
   go_upto_region 1 with fail
   first|rw[hW1]|skip
   clear hW1
   go_wp2_with (first|(go_at_call 28;refine(HRI.out _).mono ?_;rintro x w2 ⟨rfl,hb2⟩;have HB2:=hid hb2;clear hb2)|(go_at_call 29;refine(HAK.out _).mono ?_;rintro x w3 ⟨rfl,rfl⟩))
   go_ret
   exact⟨rfl,HB.out.trans (HB2.out.mono HB.out.size)⟩
  | true =>
   have hu:=Yg hak
   by_cases hf:f<u
   ·have e:XO p f u=(u-1-f).tdiv p+1:=by unfold XO;rw[Z0 ⟨hrb,hu,hf⟩]
    rw[e]
    have hle:¬u≤f:=oq
    have e1:IntKind.i64.wrap (u-1)=u-1:=ZJ _ oq
    have e2:IntKind.i64.wrap (u-1-f)=u-1-f:=ZJ _ oq
    have hd:(u-1-f).tdiv p=(u-1-f)/p:=Int.tdiv_eq_ediv_of_nonneg oq
    have hd1:0≤(u-1-f)/p:=Int.ediv_nonneg oq oq
    have hd2:(u-1-f)/p≤u-1-f:=Int.ediv_le_self _ oq
    have e3:IntKind.i64.wrap ((u-1-f).tdiv p)=(u-1-f).tdiv p:=ZJ _ oq
    have e4:IntKind.i64.wrap ((u-1-f).tdiv p+1)=(u-1-f).tdiv p+1:=ZJ _ oq
    have hp0:(p == 0)=false:=by rw[ZW];omega
    have hp1:¬p=0:=oq
    clear e hd hd1 hd2
    go_enter Tryz.func13,Tryz.ntmps13
    go_upto_region 1 with fail
    first|rw[hW1]|skip
    clear hW1
    go_wp2_with (first|(go_at_call 28;refine(HRI.out _).mono ?_;rintro x w2 ⟨rfl,hb2⟩;have HB2:=hid hb2;obtain⟨⟨y0,y1⟩,yf⟩:=YG ((hb2.block _ hl0).trans HQ.out);clear hb2)|(go_at_call 29;refine(HAK.out _).mono ?_;rintro x w3 ⟨rfl,rfl⟩))
    go_ret
    exact⟨rfl,HB.out.trans (HB2.out.mono HB.out.size)⟩
   have e:XO p f u=0:=by unfold XO;rw[ZZ (fun h=>hf h.2.2)]
   rw[e]
   have hle:u≤f:=oq
   clear e
   go_enter Tryz.func13,Tryz.ntmps13
   go_upto_region 1 with fail
   first|rw[hW1]|skip
   clear hW1
   go_wp2_with (first|(go_at_call 28;refine(HRI.out _).mono ?_;rintro x w2 ⟨rfl,hb2⟩;have HB2:=hid hb2;obtain⟨⟨y0,y1⟩,yf⟩:=YG ((hb2.block _ hl0).trans HQ.out);clear hb2)|(go_at_call 29;refine(HAK.out _).mono ?_;rintro x w3 ⟨rfl,rfl⟩))
   go_ret
   exact⟨rfl,HB.out.trans (HB2.out.mono HB.out.size)⟩
theorem zF (w:World):Calls Tryz.prog 5 #[] w fun x w'=>x=.returned (.bool true)∧Below w.heap.size w w':=by
 have HJ:=hid (fun W=>KR 10 5 26 W)
 rw[show XO 10 5 26=3 from by decide] at HJ
 go_enter Tryz.func5,Tryz.ntmps5
 go_wp2_with (go_at_call 13;refine(HJ.out _).mono ?_;rintro x w2 ⟨rfl,hb2⟩;have HB2:=hid hb2;clear hb2)
 go_ret
 exact⟨rfl,HB2.out⟩
def et (x:Ending):Prop:=∃b,x=.returned (.bool b)
theorem vl {w:World} (inl:List (List Int)) (ain:Option Addr) (cin:Nat) (hin:Qj w ain inl):Calls Tryz.prog 6 #[.slice ain inl.length cin] w fun x w'=>et x∧w'=w:=by
 have HIN:=hid hin
 clear hin
 go_enter Tryz.func6,Tryz.ntmps6
 go_wp2
 go_loopw [3] (fun s wr=>Hid (∃i:Nat,s=.int .i64 (i:Int)∧i≤50∧wr=w)) (fun s _=>50-(intOf s).toNat)
 case atStart=>exact⟨0,rfl,oq,rfl⟩
 obtain⟨i,rfl,hi,rfl⟩:=hrel.out
 clear hrel
 by_cases hlt:i<inl.length
 ·have hil:(i:Int)<(inl.length:Int):=oq
  have hi0:(0:Int)≤(i:Int):=oq
  by_cases h50:i<50
  ·have hi5:(i:Int)<50:=oq
   obtain⟨l,hl⟩:∃l,inl[i]?=some l:=⟨_,Ze hlt⟩
   obtain⟨b,o,rfl,hb,hc⟩:=HIN.out.resolve_left (fun e=>by rw[e] at hlt;simp at hlt)
   obtain⟨a,c,c1,_⟩:=hc i l hl
   obtain⟨ln,hln⟩:∃ln,l.length=ln:=⟨_,rfl⟩
   rw[hln] at c1
   clear hc hln hl
   by_cases hbig:(ln:Int) > 1000
   ·go_wp2
    go_ret
    exact⟨⟨_,rfl⟩,rfl⟩
   go_wp2
   exact⟨hid ⟨i+1,by go_num,oq,by first|rfl|trivial⟩,by simp[intOf];omega⟩
  have hi5:¬(i:Int)<50:=oq
  go_wp2
  go_ret
  exact⟨⟨_,rfl⟩,rfl⟩
 have hil:¬(i:Int)<(inl.length:Int):=oq
 go_wp2
 go_ret
 exact⟨⟨_,rfl⟩,rfl⟩
def ZaR (x:Ending) (w':World):Prop :=
 x=.returned (.tuple #[.agg #[.slice none 0 0,.slice none 0 0,.slice none 0 0,.slice none 0 0],.bool false])∨∃f nds ai an aT al ci cn ct cl,x=.returned (.tuple #[fv f ai an aT al ci cn ct cl,.bool true])∧FAP w' f ai an aT al∧xC w' f an nds
theorem vg (f:FD) {u v:Int} (hu:0≤u∧u≤20000) (hv:0≤v∧v≤20000):JK f u=JK f v:=by
 unfold JK
 by_cases h:YQ f=true
 ·rw[Z0 ⟨h,hu⟩,Z0 ⟨h,hv⟩]
 rw[ZZ (fun e=>h e.1),ZZ (fun e=>h e.1)]
theorem Qj.at {w:World} {ad:Option Addr} {ll:List (List Int)} (h:Qj w ad ll) {t:Nat} (ht:t<ll.length):∃b o a c,ad=some ⟨b,o,none⟩∧b<w.heap.size∧w.cell? ⟨b,o+t,none⟩=some (.slice a ll[t].length c)∧Jq w (Value.int .i64) a ll[t]:=by
 obtain⟨b,o,e,hb,hc⟩:=h.resolve_left (fun e=>by rw[e] at ht;simp at ht)
 obtain⟨a,c,h1,h2⟩:=hc t _ (Ze ht)
 exact⟨b,o,a,c,e,hb,h1,h2⟩
theorem Jq.at {w:World} {ad:Option Addr} {l:List Int} (h:Jq w (Value.int .i64) ad l) {t:Nat} (ht:t<l.length):∃b o,ad=some ⟨b,o,none⟩∧b<w.heap.size∧w.cell? ⟨b,o+t,none⟩=some (.int .i64 l[t]):=by
 obtain⟨b,o,e,hb,hc⟩:=h.resolve_left (fun e=>by rw[e] at ht;simp at ht)
 exact⟨b,o,e,hb,hc t _ (Ze ht)⟩
end Go.Proofs.YtlhlcdjiafdoeaaGreatDoor.syn
