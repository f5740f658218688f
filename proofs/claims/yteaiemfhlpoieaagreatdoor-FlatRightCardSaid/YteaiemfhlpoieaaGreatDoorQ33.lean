/-
  Parts of the proof: Flt19, Flt20, All, Ref02R.
-/
import Derived.Test.YteaiemfhlpoieaaGreatDoorQ32
import Derived.Test.YteaiemfhlpoieaaGreatDoorQ30
import Derived.Test.YteaiemfhlpoieaaGreatDoorQ08
namespace Go.Proofs.YteaiemfhlpoieaaGreatDoor.syn
open Go.RowKit Go.Shelf
set_option linter.unusedVariables false
set_option linter.unusedSimpArgs false
def xI (p:PG):IE:=inI ((callsF p.flows 0).map Prod.snd) 0 (fun _ => none)
def fI (p:PG):IE:=inI (p.flows.map (·.nm)) 0 (fun _ => none)
def iI (p:PG):IE:=inI (p.ins.map (·.nm)) 0 (fun _ => none)
def nI (p:PG):IE:=inI (p.nodes.map (·.nm)) 0 (fun _ => none)
def fEnv (p:PG) (env:Env):Env:=flEnv env p.flows (env0 p.ins)
theorem fI_some {p:PG} {nm:ByteArray} {j:Nat} (h:fI p nm = some j):∃ hj:j < p.flows.length,p.flows[j].nm = nm:=by
  rcases inI_some _ 0 _ nm j h with ⟨h1,_,h3⟩ | h1
  · have h4:j < p.flows.length:=by simpa using h1
    refine ⟨h4,?_⟩
    simpa using h3
  · cases h1
theorem flow_has {p:PG} {nm:ByteArray} (h:(p.ins.length:Int) ≤ flowIx p nm):∃ f ∈ p.flows,f.nm = nm:=by
  unfold flowIx at h
  cases h1:fstIx IN.nm nm p.ins 0 with
  | some i =>
    rw [h1] at h
    obtain ⟨j,hj,x,hx,_⟩:=fstIx_some IN.nm nm p.ins 0 i h1
    have:=(List.getElem?_eq_some_iff.1 hx).1
    simp only at h
    omega
  | none =>
    rw [h1] at h
    cases h2:fstIx FL.nm nm p.flows 0 with
    | none => rw [h2] at h;simp only at h;omega
    | some i =>
      obtain ⟨j,hj,x,hx,hxn⟩:=fstIx_some FL.nm nm p.flows 0 i h2
      exact ⟨x,List.mem_of_getElem? hx,hxn⟩
theorem fI_has {p:PG} {nm:ByteArray} (h:(p.ins.length:Int) ≤ flowIx p nm):∃ j,fI p nm = some j ∧ j < p.flows.length:=by
  obtain ⟨f,hf,hn⟩:=flow_has h
  have h1:=inI_known (p.flows.map (·.nm)) 0 (fun _ => none) nm (List.mem_map.2 ⟨f,hf,hn⟩)
  cases h2:fI p nm with
  | none => exact absurd h2 h1
  | some j => exact ⟨j,rfl,(fI_some h2).1⟩
theorem inEnv_has:∀ (l:List IN) (e:Env) (nm:ByteArray),inEnv l e nm ≠ none → (∃ x ∈ l,x.nm = nm) ∨ e nm ≠ none
  | [],e,nm,h => .inr h
  | x :: l,e,nm,h => by
    rcases inEnv_has l _ nm h with ⟨y,hy,hn⟩ | h1
    · exact .inl ⟨y,List.mem_cons_of_mem _ hy,hn⟩
    · by_cases he:nm = x.nm
      · exact .inl ⟨x,by simp,he.symm⟩
      · refine .inr ?_
        unfold upd at h1
        rw [if_neg he] at h1
        exact h1
theorem ends_pg {p:PG} {env:Env} (hok:PgOK p) (hN:NamesF p) (hC:ClkF p env):∀ e:PE,exprOK e = true → ArgEnds p.flows p.ins.length (xI p) (fI p) (iI p) e:=by
  have hu:∀ i j (hi:i < p.flows.length) (hj:j < p.flows.length),p.flows[i].nm = p.flows[j].nm → i = j:=by
    intro i j hi hj h
    have h1:=(hN.flows i hi).1
    have h2:=(hN.flows j hj).1
    rw [h] at h1
    omega
  have h0:∀ nm,env0 p.ins nm ≠ none → fI p nm = none:=by
    intro nm h
    cases hf:fI p nm with
    | none => rfl
    | some j =>
      exfalso
      obtain ⟨hj,hjn⟩:=fI_some hf
      have h1:=(hN.flows j hj).1
      rw [hjn] at h1
      rcases inEnv_has p.ins _ nm h with ⟨x,hx,hxn⟩ | h2
      · obtain ⟨i,hi,hxi⟩:=List.getElem_of_mem hx
        have h3:=hN.ins i hi
        rw [hxi,hxn] at h3
        omega
      · exact h2 rfl
  have hf:=ends_found (nI:=p.ins.length) (xIx:=xI p) (iIx:=iI p) hC.gr h0 (fun f hf => (hok.flows f hf).2) hu (fun nm j h => fI_some h)
  intro e hex
  refine ends_all (fun nm j hj => ?_) _ e (Nat.lt_succ_self _) hex
  obtain ⟨hjl,hjn⟩:=fI_some hj
  obtain ⟨pp,q,_,hq⟩:=hC.flows _ (List.getElem_mem hjl)
  rw [hjn] at hq
  exact hf nm (by rw [hq];simp) j hj
theorem inI_le:∀ (l:List ByteArray) (i:Nat) (e:IE) (B:Nat),i + l.length ≤ B → (∀ k j,e k = some j → j ≤ B) → ∀ k j,inI l i e k = some j → j ≤ B:=by
  intro l i e B hB he k j h
  rcases inI_some l i e k j h with ⟨h1,h2,_⟩ | h1
  · omega
  · exact he k j h1
def MakF (p:PG) (env:Env) (base:Nat) (w:World) (v:Value):Prop :=
  ∃ vI vN vT vL,v = .agg #[vI,vN,vT,vL] ∧ RowM ClkC 53 2 w base vI (p.ins.map (fun x => (x.per,x.ph))) ∧ RowM NodC 78 10 w base vN p.nodes ∧
    RowM (TaskC base) 56 4 w base vT ((callsF p.flows 0).map (tkR p (xI p) (fI p) (iI p) (nI p) (fEnv p env))) ∧ RowM (TellC base) 68 5 w base vL (p.outs.map (tlR p (xI p) (fI p) (iI p) (fEnv p env)))
def zFlat:Value:=.agg #[.slice none 0 0,.slice none 0 0,.slice none 0 0,.slice none 0 0]
def MakeAns (p:PG) (base:Nat) (x:Ending) (w':World):Prop :=
  (∃ a e,e ≠ 0 ∧ x = .returned (.tuple #[zFlat,.int .i64 a,.int .i64 e])) ∨
    ∃ v env,x = .returned (.tuple #[v,.int .i64 0,.int .i64 0]) ∧ MakF p env base w' v ∧ ClkF p env ∧ (callsF p.flows 0).length ≤ 30 ∧ fewAll p (xI p) (fI p) (iI p) p.flows 0 = true
theorem MakF.below {p:PG} {env:Env} {base:Nat} {w w':World} {v:Value} (h:MakF p env base w v) (hb:Below w.heap.size w w'):MakF p env base w' v:=by
  obtain ⟨vI,vN,vT,vL,h0,h1,h2,h3,h4⟩:=h
  exact ⟨vI,vN,vT,vL,h0,h1.below hb (fun c x hc => hc),h2.below hb (fun c x hc => hc),h3.below hb (fun c x hc => hc.below hb),h4.below hb (fun c x hc => hc.below hb)⟩
theorem MakF.mono {p:PG} {env:Env} {base base':Nat} {w:World} {v:Value} (h:MakF p env base w v) (hb:base' ≤ base):MakF p env base' w v:=by
  obtain ⟨vI,vN,vT,vL,h0,h1,h2,h3,h4⟩:=h
  exact ⟨vI,vN,vT,vL,h0,h1.mono hb (fun c x hc => hc),h2.mono hb (fun c x hc => hc),h3.mono hb (fun c x hc => hc.mono hb),h4.mono hb (fun c x hc => tellC_mono hc hb)⟩
theorem MakF.form {p:PG} {env:Env} {base:Nat} {w:World} {v:Value} (h:MakF p env base w v):∃ aI cI aN cN aT cT aL cL,v = .agg #[.slice aI p.ins.length cI,.slice aN p.nodes.length cN,.slice aT (callsF p.flows 0).length cT,.slice aL p.outs.length cL]:=by
  obtain ⟨vI,vN,vT,vL,rfl,h1,h2,h3,h4⟩:=h
  obtain ⟨aI,cI,rfl⟩:=h1.form
  obtain ⟨aN,cN,rfl⟩:=h2.form
  obtain ⟨aT,cT,rfl⟩:=h3.form
  obtain ⟨aL,cL,rfl⟩:=h4.form
  simp only [List.length_map]
  exact ⟨aI,cI,aN,cN,aT,cT,aL,cL,rfl⟩
set_option maxRecDepth 100000 in
set_option maxHeartbeats 4000000 in
theorem make_any {w:World} (p:PG) (an ai af ao:Option Addr) (cn ci cf co:Nat) (hp:AP w p an ai af ao cn ci cf co) (hz:NZ w p.nodes an) (hok:PgOK p) (hN:NamesF p) (hps:∀ x ∈ p.nodes,x.ps.length ≤ 1000) (l:List (Int × Int)) (bc:Nat) (hbc:bc < w.heap.size) (hl:l.length ≤ 1000) (hc:CkAt w bc l) :
    Calls Tryz.prog 9 #[pv p an ai af ao cn ci cf co,.slice (some ⟨bc,0,none⟩) l.length l.length] w fun x w' => MakeAns p w.heap.size x w' ∧ Below w.heap.size w w':=by
  have HASK:=hid (fun (w':World) (hb:Below w.heap.size w w') => fask_any (w:=w') p an ai af ao cn ci cf co (hp.below hb) (hz.below hp.nodes hb) hok l bc (Nat.lt_of_lt_of_le hbc hb.size) hl (fun i h => ⟨(hb.cell (p:=⟨bc,i * 2,none⟩) hbc).trans (hc i h).1,(hb.cell (p:=⟨bc,i * 2 + 1,none⟩) hbc).trans (hc i h).2⟩))
  have HNEW:=hid (fun (w':World) (hb:Below w.heap.size w w') (env:Env) (he:p.flows.map (fun f => clkAt env f.nm) = l) => newMaker_any (w:=w') p an ai af ao cn ci cf co (hp.below hb) hok env bc (Nat.lt_of_lt_of_le hbc hb.size) l he (fun i h => ⟨(hb.cell (p:=⟨bc,i * 2,none⟩) hbc).trans (hc i h).1,(hb.cell (p:=⟨bc,i * 2 + 1,none⟩) hbc).trans (hc i h).2⟩))
  have HP:=hid hp
  have HOK:=hid hok
  have HNM:=hid hN
  have HPS:=hid hps
  clear hp hz hok hN hps hc
  unfold pv at *
  go_enter Tryz.func9,Tryz.ntmps9
  go_upto_region 1 with fail
  obtain ⟨W2,hW2⟩:∃ W2,(w.alloc (.cells #[.slice an p.nodes.length cn,.slice ai p.ins.length ci,.slice af p.flows.length cf,.slice ao p.outs.length co] 27)).alloc (.cells #[.slice none 0 0,.slice none 0 0,.slice none 0 0,.slice none 0 0] 37) = W2:=⟨_,rfl⟩
  rw [hW2]
  have hB:Below w.heap.size w W2:=by rw [← hW2];exact bq
  have hs2:w.heap.size + 2 ≤ W2.heap.size:=by rw [← hW2];simp
  have hq0:W2.heap[w.heap.size]? = some (.cells #[.slice an p.nodes.length cn,.slice ai p.ins.length ci,.slice af p.flows.length cf,.slice ao p.outs.length co] 27 (0,0)):=by rw [← hW2];exact (Below.heap_alloc _ _ _ (by simp)).trans (heap_new w _)
  have hq1:W2.heap[w.heap.size + 1]? = some (.cells #[.slice none 0 0,.slice none 0 0,.slice none 0 0,.slice none 0 0] 37 (0,0)):=by rw [← hW2];simpa using heap_new (w.alloc (.cells #[.slice an p.nodes.length cn,.slice ai p.ins.length ci,.slice af p.flows.length cf,.slice ao p.outs.length co] 27)) (.cells #[.slice none 0 0,.slice none 0 0,.slice none 0 0,.slice none 0 0] 37)
  have HB:=hid hB
  have HQ0:=hid hq0
  have HQ1:=hid hq1
  obtain ⟨⟨x0,x1,x2,x3⟩,xf⟩:=cells4 hq0
  clear hW2 hB hq0 hq1
  have hl0:w.heap.size < W2.heap.size:=by omega
  have hl1:w.heap.size + 1 < W2.heap.size:=by omega
  go_wp2_with (first
    | (go_at_call 36;refine (HASK.out _ HB.out).mono ?_;rintro x w3 ⟨(⟨a3,e3,he3,rfl⟩ | ⟨rfl,env,hck,hle⟩),hb3⟩ <;> (have hz3:=hb3.size;have hlt3:w.heap.size + 1 < w3.heap.size:=oq;have HA3:=hid (HB.out.trans (hb3.mono oq));have HV:=hid ((hb3.block _ hl1).trans HQ1.out);obtain ⟨⟨y0,y1,y2,y3⟩,yf⟩:=cells4 ((hb3.block _ hl0).trans HQ0.out);obtain ⟨⟨v0,v1,v2,v3⟩,vf⟩:=cells4 HV.out;first | (have hne3:(e3 != 0) = true:=bne_iff_ne.2 he3) | (have HCK:=hid hck;have HLE:=hid hle;clear hck hle);clear hb3))
    | (go_at_call 37;refine (HNEW.out w3 HA3.out env HLE.out.symm).mono ?_;rintro x w4 ⟨m,mc,mi,mf,mn,mx,Lc,Li,Lf,Ln,rfl,hmk,hLc,hLi,hLf,hLn⟩;have HM4:=hid (mkr_of hmk);have HL4:=hid HM4.out.low;have HMAPS:=hid (And.intro hLc (And.intro hLi (And.intro hLf hLn)));have k3:=Nat.lt_of_lt_of_le hlt3 HL4.out.size;obtain ⟨⟨v0,v1,v2,v3⟩,vf⟩:=cells4 ((HL4.out.block _ hlt3).trans HV.out);clear hmk hLc hLi hLf hLn)
    | (go_at_call 38;refine (number_any p an ai af ao cn ci cf co (HP.out.below HA3.out) HOK.out mc mi mf mn mx m Lc Li Lf Ln HM4.out).mono ?_;rintro x w5 hnum;rcases hnum with ⟨a5,rfl,h30,hb5⟩ | ⟨rfl,h30,hup,Lx,hM5,hIx⟩ <;> ((first | (have HL5:=hid hb5;clear hb5) | (have HL5:=hid hM5.low;have HM5:=hid hM5;have HIX:=hid hIx;clear hM5 hIx hup));have k3:=Nat.lt_of_lt_of_le hlt3 HL5.out.size;obtain ⟨⟨v0,v1,v2,v3⟩,vf⟩:=cells4 ((HL5.out.block _ hlt3).trans HV.out)))
    | (go_at_call 39;refine (askOps_any p an ai af ao cn ci cf co (HP.out.below HA3.out) HOK.out mc mi mf mn mx m Lc Li Lf Ln Lx HM5.out (xI p) (fI p) (iI p) HIX.out HMAPS.out.2.2.1 HMAPS.out.2.1 (inI_le _ _ _ 1000 (by rw [List.length_map];omega) (fun k j h => by cases h)) (ends_pg HOK.out HNM.out HCK.out)).mono ?_;rintro x w6 ⟨(⟨rfl,hfew⟩ | ⟨a6,rfl,hfew⟩),hb6⟩ <;> (have HL6:=hid (HL5.out.trans (hb6.mono HL5.out.size));have HM6:=hid (HM5.out.grow hb6);have k3:=Nat.lt_of_lt_of_le hlt3 HL6.out.size;obtain ⟨⟨v0,v1,v2,v3⟩,vf⟩:=cells4 ((HL6.out.block _ hlt3).trans HV.out);clear hb6))
    | (go_at_call 40;refine (flat_any p an ai af ao cn ci cf co (HP.out.below HA3.out) HOK.out mc mi mf mn mx m Lc Li Lf Ln Lx HM6.out (xI p) (fI p) (iI p) (nI p) HIX.out HMAPS.out.2.2.1 HMAPS.out.2.1 HMAPS.out.2.2.2 (inI_le _ _ _ 1000 (by rw [List.length_map];omega) (fun k j h => by cases h)) (fEnv p env) HMAPS.out.1 (ends_pg HOK.out HNM.out HCK.out) HPS.out h30 (fun o ho => by obtain ⟨i,hi,hoi⟩:=List.getElem_of_mem ho;have:=HNM.out.outs i hi;rw [hoi] at this;exact fI_has this)).mono ?_;rintro x w7 ⟨⟨vI,vN,vT,vL,rfl,r1,r2,r3,r4⟩,hb7⟩;have HR:=hid (And.intro r1 (And.intro r2 (And.intro r3 r4)));obtain ⟨aI,cI,rfl⟩:=r1.form;obtain ⟨aN,cN,rfl⟩:=r2.form;obtain ⟨aT,cT,rfl⟩:=r3.form;obtain ⟨aL,cL,rfl⟩:=r4.form;have HL7:=hid (HL6.out.trans (hb7.mono HL6.out.size));have HS7:=hid HL6.out.size;have k3:=Nat.lt_of_lt_of_le hlt3 HL7.out.size;obtain ⟨⟨v0,v1,v2,v3⟩,vf⟩:=cells4 ((HL7.out.block _ hlt3).trans HV.out);clear hb7 r1 r2 r3 r4))
  all_goals first
    | (refine bodyPost_ret (v:=.tuple #[zFlat,.int .i64 a6,.int .i64 8]) ?_ rfl ⟨.inl ⟨a6,8,by decide,rfl⟩,?_⟩;(focus (unfold zFlat;simp only [results,Tryz.results9];go_simp));exact bq)
    | (refine bodyPost_ret (v:=.tuple #[zFlat,.int .i64 a5,.int .i64 8]) ?_ rfl ⟨.inl ⟨a5,8,by decide,rfl⟩,?_⟩;(focus (unfold zFlat;simp only [results,Tryz.results9];go_simp));exact bq)
    | (refine bodyPost_ret (v:=.tuple #[zFlat,.int .i64 a3,.int .i64 e3]) ?_ rfl ⟨.inl ⟨a3,e3,he3,rfl⟩,?_⟩;(focus (unfold zFlat;simp only [results,Tryz.results9];go_simp));exact bq)
    | skip
  have hst:Stays 37 w7 ((((w7.setCell ⟨w.heap.size + 1,0,none⟩ (.slice aI (p.ins.map (fun x => (x.per,x.ph))).length cI)).setCell ⟨w.heap.size + 1,1,none⟩ (.slice aN p.nodes.length cN)).setCell ⟨w.heap.size + 1,2,none⟩ (.slice aT ((callsF p.flows 0).map (tkR p (xI p) (fI p) (iI p) (nI p) (fEnv p env))).length cT)).setCell ⟨w.heap.size + 1,3,none⟩ (.slice aL (p.outs.map (tlR p (xI p) (fI p) (iI p) (fEnv p env))).length cL)):=Stays.of_upon ((HL7.out.block _ hlt3).trans HV.out) (upon4 w7 (w.heap.size + 1) _ _ _ _)
  have hbse:w.heap.size ≤ w6.heap.size:=by have:=HA3.out.size;have:=HS7.out;omega
  obtain ⟨r1,r2,r3,r4⟩:=HR.out
  have hm:MakF p env w.heap.size _ (.agg #[.slice aI (p.ins.map (fun x => (x.per,x.ph))).length cI,.slice aN p.nodes.length cN,.slice aT ((callsF p.flows 0).map (tkR p (xI p) (fI p) (iI p) (nI p) (fEnv p env))).length cT,.slice aL (p.outs.map (tlR p (xI p) (fI p) (iI p) (fEnv p env))).length cL]):=⟨_,_,_,_,rfl,(r1.stays hst (by decide) (fun c x hc => hc)).mono hbse (fun c x hc => hc),(r2.stays hst (by decide) (fun c x hc => hc)).mono hbse (fun c x hc => hc),
    (r3.stays hst (by decide) (fun c x hc => hc.stays hst (by decide) (by decide))).mono hbse (fun c x hc => hc.mono hbse),(r4.stays hst (by decide) (fun c x hc => hc.stays hst (by decide))).mono hbse (fun c x hc => tellC_mono hc hbse)⟩
  simp only [List.length_map] at hm hst
  refine bodyPost_ret (v:=.tuple #[.agg #[.slice aI p.ins.length cI,.slice aN p.nodes.length cN,.slice aT (callsF p.flows 0).length cT,.slice aL p.outs.length cL],.int .i64 0,.int .i64 0]) ?_ rfl ⟨.inr ⟨_,env,rfl,hm,HCK.out,h30,hfew⟩,?_⟩
  · simp only [results,Tryz.results9];go_simp
  · exact bq
theorem make_len {w:World} (p:PG) (an ai af ao:Option Addr) (cn ci cf co:Nat) (hp:AP w p an ai af ao cn ci cf co) (hz:NZ w p.nodes an) (hok:PgOK p) (hN:NamesF p) (hps:∀ x ∈ p.nodes,x.ps.length ≤ 1000) (l:List (Int × Int)) (n:Nat) (hn:l.length = n) (bc:Nat) (hbc:bc < w.heap.size) (hl:l.length ≤ 1000) (hc:CkAt w bc l) :
    Calls Tryz.prog 9 #[pv p an ai af ao cn ci cf co,.slice (some ⟨bc,0,none⟩) n n] w fun x w' => MakeAns p w.heap.size x w' ∧ Below w.heap.size w w':=by
  subst hn
  exact make_any p an ai af ao cn ci cf co hp hz hok hN hps l bc hbc hl hc
theorem MakF.stays {p:PG} {env:Env} {base:Nat} {w w':World} {v:Value} (h:MakF p env base w v) (hst:Stays 37 w w'):MakF p env base w' v:=by
  obtain ⟨vI,vN,vT,vL,h0,h1,h2,h3,h4⟩:=h
  exact ⟨vI,vN,vT,vL,h0,h1.stays hst (by decide) (fun c x hc => hc),h2.stays hst (by decide) (fun c x hc => hc),h3.stays hst (by decide) (fun c x hc => hc.stays hst (by decide) (by decide)),h4.stays hst (by decide) (fun c x hc => hc.stays hst (by decide))⟩
def MadeAns (p:PG) (base:Nat) (x:Ending) (w':World):Prop :=
  x = .returned (.tuple #[zFlat,.bool false]) ∨
    ∃ v env,x = .returned (.tuple #[v,.bool true]) ∧ MakF p env base w' v ∧ RightF p ∧ NamesF p ∧ ClkF p env ∧ (callsF p.flows 0).length ≤ 30 ∧ fewAll p (xI p) (fI p) (iI p) p.flows 0 = true
set_option maxRecDepth 100000 in
set_option maxHeartbeats 4000000 in
theorem made_any {w:World} (p:PG) (an ai af ao:Option Addr) (cn ci cf co:Nat) (hp:AP w p an ai af ao cn ci cf co) (hz:NZ w p.nodes an) (hsm:SmallP p) :
    Calls Tryz.prog 19 #[pv p an ai af ao cn ci cf co] w fun x w' => MadeAns p w.heap.size x w' ∧ Below w.heap.size w w':=by
  have HRI:=hid (fun (w':World) (hb:Below w.heap.size w w') => right_pg (w:=w') p an ai af ao cn ci cf co (hp.below hb) hsm)
  have HNA:=hid (fun (w':World) (hb:Below w.heap.size w w') (hr:RightF p) => names_ins (w:=w') p.nodes p.ins p.flows p.outs an ai af ao cn ci cf co (hp.below hb) (by have:=hr.lens;omega) (by have:=hr.lens;omega) (by have:=hr.lens;omega) (by have:=hr.lens;omega) (fun x hx => by have:=(hr.nodes x hx).2.1;omega))
  have HCL:=hid (fun (w':World) (hb:Below w.heap.size w w') (hr:RightF p) => clocks_gen (w:=w') p an ai af ao cn ci cf co (hp.below hb) hr.ok.sums (by have:=hr.lens;omega) hr.ok.ins)
  have HMA:=hid (fun (w':World) (hb:Below w.heap.size w w') (hr:RightF p) (hn:NamesF p) l n (hln:l.length = n) bc (hbc:bc < w'.heap.size) (hl:l.length ≤ 1000) (hc:CkAt w' bc l) => make_len (w:=w') p an ai af ao cn ci cf co (hp.below hb) (hz.below hp.nodes hb) hr.ok hn (fun x hx => by have:=(hr.nodes x hx).2.1;omega) l n hln bc hbc hl hc)
  clear hp hz hsm
  unfold pv at *
  go_enter Tryz.func19,Tryz.ntmps19
  go_upto_region 1 with fail
  obtain ⟨W2,hW2⟩:∃ W2,(w.alloc (.cells #[.slice an p.nodes.length cn,.slice ai p.ins.length ci,.slice af p.flows.length cf,.slice ao p.outs.length co] 27)).alloc (.cells #[.slice none 0 0,.slice none 0 0,.slice none 0 0,.slice none 0 0] 37) = W2:=⟨_,rfl⟩
  rw [hW2]
  have hB:Below w.heap.size w W2:=by rw [← hW2];exact bq
  have hs2:w.heap.size + 2 ≤ W2.heap.size:=by rw [← hW2];simp
  have hq0:W2.heap[w.heap.size]? = some (.cells #[.slice an p.nodes.length cn,.slice ai p.ins.length ci,.slice af p.flows.length cf,.slice ao p.outs.length co] 27 (0,0)):=by rw [← hW2];exact (Below.heap_alloc _ _ _ (by simp)).trans (heap_new w _)
  have hq1:W2.heap[w.heap.size + 1]? = some (.cells #[.slice none 0 0,.slice none 0 0,.slice none 0 0,.slice none 0 0] 37 (0,0)):=by rw [← hW2];simpa using heap_new (w.alloc (.cells #[.slice an p.nodes.length cn,.slice ai p.ins.length ci,.slice af p.flows.length cf,.slice ao p.outs.length co] 27)) (.cells #[.slice none 0 0,.slice none 0 0,.slice none 0 0,.slice none 0 0] 37)
  have HB:=hid hB
  have HQ0:=hid hq0
  have HQ1:=hid hq1
  obtain ⟨⟨x0,x1,x2,x3⟩,xf⟩:=cells4 hq0
  have hl0:w.heap.size < W2.heap.size:=by omega
  have hl1:w.heap.size + 1 < W2.heap.size:=by omega
  clear hW2 hB hq0 hq1
  go_wp2_with (first
    | (go_at_call 6;refine (HRI.out _ HB.out).mono ?_;rintro x w3 ⟨⟨b3,rfl,hb3⟩,hlo3⟩;have HL3:=hid (show Below W2.heap.size W2 w3 from hlo3);obtain ⟨⟨y0,y1,y2,y3⟩,yf⟩:=cells4 ((HL3.out.block _ hl0).trans HQ0.out);obtain ⟨⟨v0,v1,v2,v3⟩,vf⟩:=cells4 ((HL3.out.block _ hl1).trans HQ1.out);have hz3:=HL3.out.size;have HR3:=hid hb3;clear hb3 hlo3;cases b3)
    | (go_at_call 7;refine (HNA.out _ (HB.out.trans (HL3.out.mono oq)) (HR3.out (by trivial))).mono ?_;rintro x w4 ⟨⟨b4,rfl,hb4⟩,hlo4⟩;have HL4:=hid (HL3.out.trans (hlo4.mono hz3));obtain ⟨⟨y0,y1,y2,y3⟩,yf⟩:=cells4 ((HL4.out.block _ hl0).trans HQ0.out);obtain ⟨⟨v0,v1,v2,v3⟩,vf⟩:=cells4 ((HL4.out.block _ hl1).trans HQ1.out);have hz4:=HL4.out.size;have HN4:=hid hb4;clear hb4 hlo4;cases b4)
    | (go_at_call 8;refine (HCL.out _ (HB.out.trans (HL4.out.mono oq)) (HR3.out (by trivial))).mono ?_;rintro x w5 ⟨(⟨a5,e5,he5,rfl⟩ | ⟨v5,env5,rfl,hck5,⟨b5,rfl,hb5,hc5⟩⟩),hlo5⟩ <;> (have HL5:=hid (HL4.out.trans (hlo5.mono hz4));(obtain ⟨⟨y0,y1,y2,y3⟩,yf⟩:=cells4 ((HL5.out.block _ hl0).trans HQ0.out));(obtain ⟨⟨v0,v1,v2,v3⟩,vf⟩:=cells4 ((HL5.out.block _ hl1).trans HQ1.out));have hz5:=HL5.out.size;first | (have hne5:(e5 != 0) = true:=bne_iff_ne.2 he5) | (have HC5:=hid hc5;clear hc5);clear hlo5))
    | (go_at_call 9;refine (HMA.out _ (HB.out.trans (HL5.out.mono oq)) (HR3.out (by trivial)) (HN4.out (by trivial)) (p.flows.map (fun f:FL => clkAt env5 f.nm)) _ (List.length_map ..) b5 hb5 (by rw [List.length_map];have:=(HR3.out (by trivial)).lens;omega) HC5.out).mono ?_;rintro x w6 ⟨(⟨a6,e6,he6,rfl⟩ | ⟨v6,env,rfl,hmk,hck,h30,hfew⟩),hlo6⟩ <;> (have HL6:=hid (HL5.out.trans (hlo6.mono hz5));(obtain ⟨⟨v0,v1,v2,v3⟩,vf⟩:=cells4 ((HL6.out.block _ hl1).trans HQ1.out));have hz6:=HL6.out.size;have hk6:w.heap.size + 1 < w6.heap.size:=oq;have hk6n:¬ w.heap.size + 1 = w6.heap.size:=oq;have hle6:w.heap.size ≤ w5.heap.size:=oq;first | (have hne6:(e6 == 0) = false:=beq_eq_false_iff_ne.2 he6;unfold zFlat) | (have HMK:=hid hmk;obtain ⟨aI,cI,aN,cN,aT,cT,aL,cL,rfl⟩:=hmk.form;clear hmk);clear hlo6)))
  all_goals first
    | (have hq7:=(HL6.out.block _ hl1).trans HQ1.out;refine bodyPost_ret (v:=.tuple #[.agg #[.slice aI p.ins.length cI,.slice aN p.nodes.length cN,.slice aT (callsF p.flows 0).length cT,.slice aL p.outs.length cL],.bool true]) ?_ rfl ⟨.inr ⟨_,env,rfl,(HMK.out.mono hle6).stays ((Stays.of_upon hq7 (upon4 _ _ _ _ _ _)).trans (Stays.of_below ((Below.refl _ _).alloc (Nat.le_refl _) _))),HR3.out (by trivial),HN4.out (by trivial),hck,h30,hfew⟩,?_⟩;(focus (simp only [results,Tryz.results19];go_simp));exact bq)
    | (have hgd:=HL6.out;refine bodyPost_ret (v:=.tuple #[zFlat,.bool false]) ?_ rfl ⟨.inl rfl,?_⟩;(focus (unfold zFlat;simp only [results,Tryz.results19];go_simp));exact bq)
    | (have hgd:=HL5.out;refine bodyPost_ret (v:=.tuple #[zFlat,.bool false]) ?_ rfl ⟨.inl rfl,?_⟩;(focus (unfold zFlat;simp only [results,Tryz.results19];go_simp));exact bq)
    | (have hgd:=HL4.out;refine bodyPost_ret (v:=.tuple #[zFlat,.bool false]) ?_ rfl ⟨.inl rfl,?_⟩;(focus (unfold zFlat;simp only [results,Tryz.results19];go_simp));exact bq)
    | (have hgd:=HL3.out;refine bodyPost_ret (v:=.tuple #[zFlat,.bool false]) ?_ rfl ⟨.inl rfl,?_⟩;(focus (unfold zFlat;simp only [results,Tryz.results19];go_simp));exact bq)
    | skip
end Go.Proofs.YteaiemfhlpoieaaGreatDoor.syn
namespace Go.Proofs.YteaiemfhlpoieaaGreatDoor.clock
open Go.RowKit
set_option linter.unusedVariables false
def allFrom:Int → Int → List (Int × Int × Int) → Int × Int × Int
  | p,f,[] => (p,f,0)
  | p,f,o :: l => let r:=applyP p f o.1 o.2.1 o.2.2;if r.2.2 = 0 then allFrom r.1 r.2.1 l else (0,0,r.2.2)
def allP (p f:Int) (l:List (Int × Int × Int)):Int × Int × Int:=if rightB p f = true then allFrom p f l else (0,0,12)
theorem all_wrong (p f:Int) (v:Value) (w:World) (h:¬ (1 ≤ p ∧ p ≤ 2000 ∧ 0 ≤ f ∧ f ≤ 2000)) :
    Calls Tryz.prog 73 #[.agg #[.int .i64 p,.int .i64 f],v] w fun e w' => e = .returned (ansC 0 0 12) ∧ Below w.heap.size w w':=by
  have HR:=Lib.hid (fun w => right_false p f w h)
  clear h
  go_enter Tryz.func73,Tryz.ntmps73
  go_wp2_with (go_at_call 44;(with_reducible refine (HR.out _).mono ?_);rintro e w1 ⟨rfl,hb1⟩;obtain ⟨hc1,hf1⟩:=arith.bcell hb1;have ha1:w.heap.size < w1.heap.size:=sz_of hb1 (by first | (simp;done) | (simp;omega));have hy1:w.heap.size + 1 < w1.heap.size:=sz_of hb1 (by simp))
  exact bodyPost_ret (v:=.tuple #[.agg #[.int .i64 0,.int .i64 0],.int .i64 12]) (by simp only [results,Tryz.results73];go_simp) rfl ⟨rfl,(by repeat (first | exact Below.refl _ _ | (refine Below.setCell ?_ (by first | omega | (simp;done) | (simp;omega)) _) | (refine Below.alloc ?_ (by first | omega | (simp;done) | (simp;omega)) _) | (refine Below.trans ?_ (hb1.mono (by first | omega | (simp;done) | (simp;omega))))))⟩
def AllRel (B:Nat) (w:World) (p f:Int) (l:List (Int × Int × Int)) (k:Nat) (p' f':Int) (wr:World):Prop :=
  allFrom p' f' (l.drop k) = allFrom p f l ∧ Below B w wr ∧ B + 1 < wr.heap.size ∧
  wr.cell? ⟨B,0,none⟩ = some (.int .i64 p') ∧ wr.cell? ⟨B,1,none⟩ = some (.int .i64 f') ∧ wr.cell? ⟨B + 1,0,none⟩ = some (.int .i64 0) ∧ wr.cell? ⟨B + 1,1,none⟩ = some (.int .i64 0) ∧
  wr.frozen? ⟨B,0,none⟩ = false ∧ wr.frozen? ⟨B,1,none⟩ = false ∧ wr.frozen? ⟨B + 1,0,none⟩ = false ∧ wr.frozen? ⟨B + 1,1,none⟩ = false
theorem allRel_step {B:Nat} {w wr w2:World} {p f:Int} {l:List (Int × Int × Int)} {k:Nat} {p' f' p2 f2:Int} {o o2:Obj} (h:AllRel B w p f l k p' f' wr)
    (hn:allFrom p2 f2 (l.drop (k + 1)) = allFrom p f l) (hb:Below (wr.alloc o).heap.size (wr.alloc o) w2) :
    AllRel B w p f l (k + 1) p2 f2 (((w2.setCell ⟨B,0,none⟩ (.int .i64 p2)).setCell ⟨B,1,none⟩ (.int .i64 f2)).alloc o2):=by
  obtain ⟨hA,hB,hz,c0,c1,c2,c3,z0,z1,z2,z3⟩:=h
  have hs:=hb.size
  rw [World.size_alloc] at hs
  have hk:Below wr.heap.size wr w2:=Below.trans ((Below.refl _ _).alloc (Nat.le_refl _) o) (hb.mono (by rw [World.size_alloc];omega))
  have s0:B < wr.heap.size:=by omega
  have s3:B < w2.heap.size:=by omega
  have s4:B + 1 < w2.heap.size:=by omega
  have d0:=(hk.cell (p:=⟨B,0,none⟩) s0).trans c0
  have d1:=(hk.cell (p:=⟨B,1,none⟩) s0).trans c1
  have d2:=(hk.cell (p:=⟨B + 1,0,none⟩) hz).trans c2
  have d3:=(hk.cell (p:=⟨B + 1,1,none⟩) hz).trans c3
  have y0:=(hk.frozen (p:=⟨B,0,none⟩) s0).trans z0
  have y1:=(hk.frozen (p:=⟨B,1,none⟩) s0).trans z1
  have y2:=(hk.frozen (p:=⟨B + 1,0,none⟩) hz).trans z2
  have y3:=(hk.frozen (p:=⟨B + 1,1,none⟩) hz).trans z3
  have hB2:Below B w w2:=hB.trans (hk.mono (by omega))
  clear hk hb hB c0 c1 c2 c3 z0 z1 z2 z3 hA
  refine ⟨hn,?_,?_,?_,?_,?_,?_,?_,?_,?_,?_⟩
  · exact Below.alloc (Below.setCell (Below.setCell hB2 (Nat.le_refl _) _) (Nat.le_refl _) _) (by simp;omega) _
  · simp;omega
  all_goals go_simp
theorem allFrom_ok {l r:List (Int × Int × Int)} {p f k n d p2 f2:Int} {X:Int × Int × Int} (hd:l = (k,n,d) :: r) (hr:applyP p f k n d = (p2,f2,0)) (hA:allFrom p f l = X):allFrom p2 f2 r = X:=by
  rw [hd,allFrom] at hA
  simp only [hr] at hA
  rw [if_pos trivial] at hA;exact hA
theorem allFrom_no {l r:List (Int × Int × Int)} {p f k n d p2 f2 e:Int} {X:Int × Int × Int} (hd:l = (k,n,d) :: r) (hr:applyP p f k n d = (p2,f2,e)) (he:¬ e = 0) (hA:allFrom p f l = X):X = (0,0,e):=by
  rw [hd,allFrom] at hA
  simp only [hr] at hA
  rw [if_neg he] at hA;exact hA.symm
theorem drop_cons3 {l:List (Int × Int × Int)} {k:Nat} (h:k < l.length):l.drop k = l.getD k (0,0,0) :: l.drop (k + 1):=by
  rw [List.drop_eq_getElem_cons h,plain.getD_lt _ h]
theorem all_row (p f:Int) (a:Option Addr) (cap:Nat) (l:List (Int × Int × Int)) (w:World) (h:1 ≤ p ∧ p ≤ 2000 ∧ 0 ≤ f ∧ f ≤ 2000) (hl:l.length ≤ 9223372036854775807)
    (hcell:∀ k,k < l.length → ∃ b off,a = some ⟨b,off,none⟩ ∧ b < w.heap.size ∧ w.cell? ⟨b,off + k * 3,none⟩ = some (.int .i64 (l.getD k (0,0,0)).1) ∧ w.cell? ⟨b,off + k * 3 + 1,none⟩ = some (.int .i64 (l.getD k (0,0,0)).2.1) ∧ w.cell? ⟨b,off + k * 3 + 2,none⟩ = some (.int .i64 (l.getD k (0,0,0)).2.2)) :
    Calls Tryz.prog 73 #[.agg #[.int .i64 p,.int .i64 f],.slice a l.length cap] w fun e w' => e = .returned (ansT (allFrom p f l)) ∧ Below w.heap.size w w':=by
  have HR:=Lib.hid (fun w => right_true p f w h)
  have HC:=Lib.hid hcell
  clear h hcell
  go_enter Tryz.func73,Tryz.ntmps73
  go_wp2_with (go_at_call 44;(with_reducible refine (HR.out _).mono ?_);rintro e w1 ⟨rfl,hb1⟩;obtain ⟨hc1,hf1⟩:=arith.bcell hb1;have ha1:w.heap.size < w1.heap.size:=sz_of hb1 (by first | (simp;done) | (simp;omega));have hy1:w.heap.size + 1 < w1.heap.size:=sz_of hb1 (by simp))
  go_loopw [16] (fun i wr => ∃ (k:Nat) (p' f':Int),k ≤ l.length ∧ i = .int .i64 k ∧ AllRel w.heap.size w p f l k p' f' wr) (fun i _ => l.length - (intOf i).toNat)
  case atStart =>
    refine ⟨0,p,f,by omega,rfl,rfl,?_,hy1,?_,?_,?_,?_,?_,?_,?_,?_⟩
    · exact Below.trans (((Below.refl _ _).alloc (by first | omega | (simp;done) | (simp;omega)) _).alloc (by first | omega | (simp;done) | (simp;omega)) _) (hb1.mono (by first | omega | (simp;done) | (simp;omega)))
    all_goals go_simp
  case round =>
    obtain ⟨k,p',f',hk,rfl,hrel⟩:=hrel
    have HREL:=Lib.hid hrel
    obtain ⟨hA,hB,hz,c0,c1,c2,c3,z0,z1,z2,z3⟩:=hrel
    have HA:=Lib.hid hA
    have HB:=Lib.hid hB
    clear hA hB hc1 hf1 hb1 ha1 hy1
    have ha:w.heap.size < wr.heap.size:=by omega
    by_cases hlt:k < l.length
    · have hd:=Lib.hid (drop_cons3 hlt)
      obtain ⟨b,off,rfl,hb0,e0,e1,e2⟩:=HC.out k hlt
      rw [← HB.out.cell (p:=⟨b,_,none⟩) hb0] at e0 e1 e2
      generalize l.getD k (0,0,0) = o at *
      obtain ⟨ok,on,od⟩:=o
      simp only at e0 e1 e2
      generalize hr:applyP p' f' ok on od = r
      obtain ⟨p2,f2,er⟩:=r
      have HAp:=Lib.hid (fun w => apply_any p' f' ok on od w)
      simp only [hr,ansT,ansC] at HAp
      have Hr:=Lib.hid hr
      clear hr
      have n1:¬ w.heap.size = wr.heap.size:=by omega
      have n2:¬ w.heap.size + 1 = wr.heap.size:=by omega
      have s1:w.heap.size < wr.heap.size + 1:=by omega
      have s2:w.heap.size + 1 < wr.heap.size + 1:=by omega
      by_cases he:er = 0
      · subst he
        go_wp2_with (go_at_call 76;(with_reducible refine (HAp.out _).mono ?_);rintro e w2 ⟨rfl,hb2⟩;have HB2:=Lib.hid hb2;obtain ⟨hc2,hf2⟩:=arith.bcell hb2;have s3:w.heap.size < w2.heap.size:=sz_of hb2 (by first | omega | (simp;done) | (simp;omega));have s4:w.heap.size + 1 < w2.heap.size:=sz_of hb2 (by first | omega | (simp;done) | (simp;omega));have n3:¬ w.heap.size = w2.heap.size:=(by omega);have n4:¬ w.heap.size + 1 = w2.heap.size:=(by omega))
        go_roundw
        case rel => exact ⟨k + 1,p2,f2,by omega,by go_num,allRel_step HREL.out (allFrom_ok hd.out Hr.out HA.out) HB2.out⟩
        case measure => simp [intOf];omega
      · have hne:(er != 0) = true:=by simpa using he
        have E:=Lib.hid (allFrom_no hd.out Hr.out he HA.out)
        clear he
        go_wp2_with (go_at_call 76;(with_reducible refine (HAp.out _).mono ?_);rintro e w2 ⟨rfl,hb2⟩;have HB2:=Lib.hid hb2;obtain ⟨hc2,hf2⟩:=arith.bcell hb2;have s3:w.heap.size < w2.heap.size:=sz_of hb2 (by first | omega | (simp;done) | (simp;omega));have s4:w.heap.size + 1 < w2.heap.size:=sz_of hb2 (by first | omega | (simp;done) | (simp;omega));have n3:¬ w.heap.size = w2.heap.size:=(by omega);have n4:¬ w.heap.size + 1 = w2.heap.size:=(by omega))
        exact bodyPost_ret (v:=.tuple #[.agg #[.int .i64 0,.int .i64 0],.int .i64 er]) (by simp only [results,Tryz.results73];go_simp) rfl ⟨by rw [E.out];rfl,(by repeat (first | exact Below.refl _ _ | exact HB.out | (refine Below.setCell ?_ (by first | omega | (simp;done) | (simp;omega)) _) | (refine Below.alloc ?_ (by first | omega | (simp;done) | (simp;omega)) _) | (refine Below.trans ?_ (HB2.out.mono (by first | omega | (simp;done) | (simp;omega))))))⟩
    · have hk':k = l.length:=by omega
      have E:Hid (allFrom p f l = (p',f',0)):=by have:=HA.out;rw [hk',List.drop_length,allFrom] at this;exact this.symm
      subst hk'
      go_wp2
      exact bodyPost_ret (v:=.tuple #[.agg #[.int .i64 p',.int .i64 f'],.int .i64 0]) (by simp only [results,Tryz.results73];go_simp) rfl ⟨by rw [E.out];rfl,(by repeat (first | exact Below.refl _ _ | exact HB.out | (refine Below.setCell ?_ (by first | omega | (simp;done) | (simp;omega)) _) | (refine Below.alloc ?_ (by first | omega | (simp;done) | (simp;omega)) _)))⟩
theorem refRight_any (p f:Int) (w:World) :
    Calls Tryz.prog 42 #[.agg #[.int .i64 p,.int .i64 f]] w fun e w' => e = .returned (.bool (rightB p f)) ∧ Below w.heap.size w w':=by
  by_cases h1:0 < p
  · by_cases h2:p ≤ 2000
    · by_cases h3:0 ≤ f
      · by_cases h4:f ≤ 2000
        · have E:=Lib.hid (right_yes (p:=p) (f:=f) (by omega))
          go_enter Tryz.func42,Tryz.ntmps42
          go_wp2
          go_ret
          exact ⟨bool_eq (by rw [E.out]),box1 _⟩
        · have E:=Lib.hid (right_no (p:=p) (f:=f) (by omega))
          have h4':2000 < f:=by omega
          have b:decide (f ≤ 2000) = false:=decide_eq_false h4
          clear h4
          go_enter Tryz.func42,Tryz.ntmps42
          go_wp2
          go_ret
          exact ⟨bool_eq (by rw [E.out];try (simp;omega)),box1 _⟩
      · have E:=Lib.hid (right_no (p:=p) (f:=f) (by omega))
        have h3':f < 0:=by omega
        have b:decide (0 ≤ f) = false:=decide_eq_false h3
        clear h3
        go_enter Tryz.func42,Tryz.ntmps42
        go_wp2
        go_ret
        exact ⟨bool_eq (by rw [E.out];try (simp;omega)),box1 _⟩
    · have E:=Lib.hid (right_no (p:=p) (f:=f) (by omega))
      have h2':2000 < p:=by omega
      have b:decide (p ≤ 2000) = false:=decide_eq_false h2
      clear h2
      go_enter Tryz.func42,Tryz.ntmps42
      go_wp2
      go_ret
      exact ⟨bool_eq (by rw [E.out];try (simp;omega)),box1 _⟩
  · have E:=Lib.hid (right_no (p:=p) (f:=f) (by omega))
    have h1':p ≤ 0:=by omega
    have b:decide (0 < p) = false:=decide_eq_false h1
    clear h1
    go_enter Tryz.func42,Tryz.ntmps42
    go_wp2
    go_ret
    exact ⟨bool_eq (by rw [E.out];try (simp;omega)),box1 _⟩
end Go.Proofs.YteaiemfhlpoieaaGreatDoor.clock
