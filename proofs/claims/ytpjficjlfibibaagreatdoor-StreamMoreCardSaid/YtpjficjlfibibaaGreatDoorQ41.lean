/-
  Parts of the proof: Flt19, Flt20, Rgt6, Rgt7, MdS.
-/
import Derived.Test.YtpjficjlfibibaaGreatDoorQ38
import Derived.Test.YtpjficjlfibibaaGreatDoorQ40
import Derived.Test.YtpjficjlfibibaaGreatDoorQ29
import Derived.Test.YtpjficjlfibibaaGreatDoorQ34
namespace Go.Proofs.YtpjficjlfibibaaGreatDoor.syn
open Go.RowKit Go.Shelf
set_option linter.unusedVariables false
set_option linter.unusedSimpArgs false
def xI (p:PG):IE:=inI ((callsF p.flows 0).map Prod.snd) 0 (fun _ => none)
def fI (p:PG):IE:=inI (p.flows.map (·.nm)) 0 (fun _ => none)
def iI (p:PG):IE:=inI (p.ins.map (·.nm)) 0 (fun _ => none)
def nI (p:PG):IE:=inI (p.nodes.map (·.nm)) 0 (fun _ => none)
def fEnv (p:PG) (env:Env):Env:=flEnv env p.flows (env0 p.ins)
theorem fI_some {p:PG} {nm:ByteArray} {j:Nat} (h:fI p nm = some j):∃ hj:j < p.flows.length,p.flows[j].nm = nm:=by
 rcases inI_some _ 0 _ nm j h with ⟨h1,_,h3⟩ | h1
 ·have h4:j < p.flows.length:=by simpa using h1
  refine ⟨h4,?_⟩
  simpa using h3
 ·cases h1
theorem flow_has {p:PG} {nm:ByteArray} (h:(p.ins.length:Int) ≤ flowIx p nm):∃ f ∈ p.flows,f.nm = nm:=by
 unfold flowIx at h
 cases h1:fstIx IN.nm nm p.ins 0 with
 | some i =>
  rw [h1] at h
  obtain ⟨j,hj,x,hx,_⟩:=fstIx_some IN.nm nm p.ins 0 i h1
  have:=(List.getElem?_eq_some_iff.1 hx).1
  simp only at h
  omega
 | none =>
  rw [h1] at h
  cases h2:fstIx FL.nm nm p.flows 0 with
  | none => rw [h2] at h;simp only at h;omega
  | some i =>
   obtain ⟨j,hj,x,hx,hxn⟩:=fstIx_some FL.nm nm p.flows 0 i h2
   exact ⟨x,List.mem_of_getElem? hx,hxn⟩
theorem fI_has {p:PG} {nm:ByteArray} (h:(p.ins.length:Int) ≤ flowIx p nm):∃ j,fI p nm = some j ∧ j < p.flows.length:=by
 obtain ⟨f,hf,hn⟩:=flow_has h
 have h1:=inI_known (p.flows.map (·.nm)) 0 (fun _ => none) nm (List.mem_map.2 ⟨f,hf,hn⟩)
 cases h2:fI p nm with
 | none => exact absurd h2 h1
 | some j => exact ⟨j,rfl,(fI_some h2).1⟩
theorem inEnv_has:∀ (l:List IN) (e:Env) (nm:ByteArray),inEnv l e nm ≠ none → (∃ x ∈ l,x.nm = nm) ∨ e nm ≠ none
 | [],e,nm,h => .inr h
 | x :: l,e,nm,h => by
  rcases inEnv_has l _ nm h with ⟨y,hy,hn⟩ | h1
  ·exact .inl ⟨y,List.mem_cons_of_mem _ hy,hn⟩
  ·by_cases he:nm = x.nm
   ·exact .inl ⟨x,by simp,he.symm⟩
   ·refine .inr ?_
    unfold upd at h1
    rw [if_neg he] at h1
    exact h1
theorem ends_pg {p:PG} {env:Env} (hok:PgOK p) (hN:NamesF p) (hC:ClkF p env):∀ e:PE,exprOK e = true → ArgEnds p.flows p.ins.length (xI p) (fI p) (iI p) e:=by
 have hu:∀ i j (hi:i < p.flows.length) (hj:j < p.flows.length),p.flows[i].nm = p.flows[j].nm → i = j:=by
  intro i j hi hj h
  have h1:=(hN.flows i hi).1
  have h2:=(hN.flows j hj).1
  rw [h] at h1
  omega
 have h0:∀ nm,env0 p.ins nm ≠ none → fI p nm = none:=by
  intro nm h
  cases hf:fI p nm with
  | none => rfl
  | some j =>
   exfalso
   obtain ⟨hj,hjn⟩:=fI_some hf
   have h1:=(hN.flows j hj).1
   rw [hjn] at h1
   rcases inEnv_has p.ins _ nm h with ⟨x,hx,hxn⟩ | h2
   ·obtain ⟨i,hi,hxi⟩:=List.getElem_of_mem hx
    have h3:=hN.ins i hi
    rw [hxi,hxn] at h3
    omega
   ·exact h2 rfl
 have hf:=ends_found (nI:=p.ins.length) (xIx:=xI p) (iIx:=iI p) hC.gr h0 (fun f hf => (hok.flows f hf).2) hu (fun nm j h => fI_some h)
 intro e hex
 refine ends_all (fun nm j hj => ?_) _ e (Nat.lt_succ_self _) hex
 obtain ⟨hjl,hjn⟩:=fI_some hj
 obtain ⟨pp,q,_,hq⟩:=hC.flows _ (List.getElem_mem hjl)
 rw [hjn] at hq
 exact hf nm (by rw [hq];simp) j hj
theorem inI_le:∀ (l:List ByteArray) (i:Nat) (e:IE) (B:Nat),i + l.length ≤ B → (∀ k j,e k = some j → j ≤ B) → ∀ k j,inI l i e k = some j → j ≤ B:=by
 intro l i e B hB he k j h
 rcases inI_some l i e k j h with ⟨h1,h2,_⟩ | h1
 ·omega
 ·exact he k j h1
def MakF (p:PG) (env:Env) (base:Nat) (w:World) (v:Value):Prop :=
 ∃ vI vN vT vL,v = .agg #[vI,vN,vT,vL] ∧ RowM ClkC 49 2 w base vI (p.ins.map (fun x => (x.per,x.ph))) ∧ RowM NodC 97 10 w base vN p.nodes ∧
  RowM (TaskC base) 100 4 w base vT ((callsF p.flows 0).map (tkR p (xI p) (fI p) (iI p) (nI p) (fEnv p env))) ∧ RowM (TellC base) 75 5 w base vL (p.outs.map (tlR p (xI p) (fI p) (iI p) (fEnv p env)))
def zFlat:Value:=.agg #[.slice none 0 0,.slice none 0 0,.slice none 0 0,.slice none 0 0]
def MakeAns (p:PG) (base:Nat) (x:Ending) (w':World):Prop :=
 (∃ a e,e ≠ 0 ∧ x = .returned (.tuple #[zFlat,.int .i64 a,.int .i64 e])) ∨
  ∃ v env,x = .returned (.tuple #[v,.int .i64 0,.int .i64 0]) ∧ MakF p env base w' v ∧ ClkF p env ∧ (callsF p.flows 0).length ≤ 30 ∧ fewAll p (xI p) (fI p) (iI p) p.flows 0 = true
theorem MakF.below {p:PG} {env:Env} {base:Nat} {w w':World} {v:Value} (h:MakF p env base w v) (hb:Below w.heap.size w w'):MakF p env base w' v:=by
 obtain ⟨vI,vN,vT,vL,h0,h1,h2,h3,h4⟩:=h
 exact ⟨vI,vN,vT,vL,h0,h1.below hb (fun c x hc => hc),h2.below hb (fun c x hc => hc.below hb),h3.below hb (fun c x hc => hc.below hb),h4.below hb (fun c x hc => hc.below hb)⟩
theorem MakF.mono {p:PG} {env:Env} {base base':Nat} {w:World} {v:Value} (h:MakF p env base w v) (hb:base' ≤ base):MakF p env base' w v:=by
 obtain ⟨vI,vN,vT,vL,h0,h1,h2,h3,h4⟩:=h
 exact ⟨vI,vN,vT,vL,h0,h1.mono hb (fun c x hc => hc),h2.mono hb (fun c x hc => hc),h3.mono hb (fun c x hc => hc.mono hb),h4.mono hb (fun c x hc => tellC_mono hc hb)⟩
theorem MakF.form {p:PG} {env:Env} {base:Nat} {w:World} {v:Value} (h:MakF p env base w v):∃ aI cI aN cN aT cT aL cL,v = .agg #[.slice aI p.ins.length cI,.slice aN p.nodes.length cN,.slice aT (callsF p.flows 0).length cT,.slice aL p.outs.length cL]:=by
 obtain ⟨vI,vN,vT,vL,rfl,h1,h2,h3,h4⟩:=h
 obtain ⟨aI,cI,rfl⟩:=h1.form
 obtain ⟨aN,cN,rfl⟩:=h2.form
 obtain ⟨aT,cT,rfl⟩:=h3.form
 obtain ⟨aL,cL,rfl⟩:=h4.form
 simp only [List.length_map]
 exact ⟨aI,cI,aN,cN,aT,cT,aL,cL,rfl⟩
set_option maxRecDepth 100000 in
set_option maxHeartbeats 4000000 in
theorem make_any {w:World} (p:PG) (an ai af ao:Option Addr) (cn ci cf co:Nat) (hp:AP w p an ai af ao cn ci cf co) (hz:NZ w p.nodes an) (hok:PgOK p) (hN:NamesF p) (hps:∀ x ∈ p.nodes,x.ps.length ≤ 1000) (l:List (Int × Int)) (bc:Nat) (hbc:bc < w.heap.size) (hl:l.length ≤ 1000) (hc:CkAt w bc l) :
  Calls Tryz.prog 18 #[pv p an ai af ao cn ci cf co,.slice (some ⟨bc,0,none⟩) l.length l.length] w fun x w' => MakeAns p w.heap.size x w' ∧ Below w.heap.size w w':=by
 have HASK:=hid (fun (w':World) (hb:Below w.heap.size w w') => fask_any (w:=w') p an ai af ao cn ci cf co (hp.below hb) (hz.below hp.nodes hb) hok l bc (Nat.lt_of_lt_of_le hbc hb.size) hl (fun i h => ⟨(hb.cell (p:=⟨bc,i * 2,none⟩) hbc).trans (hc i h).1,(hb.cell (p:=⟨bc,i * 2 + 1,none⟩) hbc).trans (hc i h).2⟩))
 have HNEW:=hid (fun (w':World) (hb:Below w.heap.size w w') (env:Env) (he:p.flows.map (fun f => clkAt env f.nm) = l) => newMaker_any (w:=w') p an ai af ao cn ci cf co (hp.below hb) hok env bc (Nat.lt_of_lt_of_le hbc hb.size) l he (fun i h => ⟨(hb.cell (p:=⟨bc,i * 2,none⟩) hbc).trans (hc i h).1,(hb.cell (p:=⟨bc,i * 2 + 1,none⟩) hbc).trans (hc i h).2⟩))
 have HP:=hid hp
 have HOK:=hid hok
 have HNM:=hid hN
 have HPS:=hid hps
 clear hp hz hok hN hps hc
 unfold pv at *
 go_enter Tryz.func18,Tryz.ntmps18
 go_upto_region 1 with fail
 obtain ⟨W2,hW2⟩:∃ W2,(w.alloc (.cells #[.slice an p.nodes.length cn,.slice ai p.ins.length ci,.slice af p.flows.length cf,.slice ao p.outs.length co] 27)).alloc (.cells #[.slice none 0 0,.slice none 0 0,.slice none 0 0,.slice none 0 0] 36) = W2:=⟨_,rfl⟩
 rw [hW2]
 have hB:Below w.heap.size w W2:=by rw [← hW2];exact bq
 have hs2:w.heap.size + 2 ≤ W2.heap.size:=by rw [← hW2];simp
 have hq0:W2.heap[w.heap.size]? = some (.cells #[.slice an p.nodes.length cn,.slice ai p.ins.length ci,.slice af p.flows.length cf,.slice ao p.outs.length co] 27 (0,0)):=by rw [← hW2];exact (Below.heap_alloc _ _ _ (by simp)).trans (heap_new w _)
 have hq1:W2.heap[w.heap.size + 1]? = some (.cells #[.slice none 0 0,.slice none 0 0,.slice none 0 0,.slice none 0 0] 36 (0,0)):=by rw [← hW2];simpa using heap_new (w.alloc (.cells #[.slice an p.nodes.length cn,.slice ai p.ins.length ci,.slice af p.flows.length cf,.slice ao p.outs.length co] 27)) (.cells #[.slice none 0 0,.slice none 0 0,.slice none 0 0,.slice none 0 0] 36)
 have HB:=hid hB
 have HQ0:=hid hq0
 have HQ1:=hid hq1
 obtain ⟨⟨x0,x1,x2,x3⟩,xf⟩:=cells4 hq0
 clear hW2 hB hq0 hq1
 have hl0:w.heap.size < W2.heap.size:=by omega
 have hl1:w.heap.size + 1 < W2.heap.size:=by omega
 go_wp2_with (first
  | (go_at_call 49;refine (HASK.out _ HB.out).mono ?_;rintro x w3 ⟨(⟨a3,e3,he3,rfl⟩ | ⟨rfl,env,hck,hle⟩),hb3⟩ <;> (have hz3:=hb3.size;have hlt3:w.heap.size + 1 < w3.heap.size:=oq;have HA3:=hid (HB.out.trans (hb3.mono oq));have HV:=hid ((hb3.block _ hl1).trans HQ1.out);obtain ⟨⟨y0,y1,y2,y3⟩,yf⟩:=cells4 ((hb3.block _ hl0).trans HQ0.out);obtain ⟨⟨v0,v1,v2,v3⟩,vf⟩:=cells4 HV.out;first | (have hne3:(e3 != 0) = true:=bne_iff_ne.2 he3) | (have HCK:=hid hck;have HLE:=hid hle;clear hck hle);clear hb3))
  | (go_at_call 50;refine (HNEW.out w3 HA3.out env HLE.out.symm).mono ?_;rintro x w4 ⟨m,mc,mi,mf,mn,mx,Lc,Li,Lf,Ln,rfl,hmk,hLc,hLi,hLf,hLn⟩;have HM4:=hid (mkr_of hmk);have HL4:=hid HM4.out.low;have HMAPS:=hid (And.intro hLc (And.intro hLi (And.intro hLf hLn)));have k3:=Nat.lt_of_lt_of_le hlt3 HL4.out.size;obtain ⟨⟨v0,v1,v2,v3⟩,vf⟩:=cells4 ((HL4.out.block _ hlt3).trans HV.out);clear hmk hLc hLi hLf hLn)
  | (go_at_call 51;refine (number_any p an ai af ao cn ci cf co (HP.out.below HA3.out) HOK.out mc mi mf mn mx m Lc Li Lf Ln HM4.out).mono ?_;rintro x w5 hnum;rcases hnum with ⟨a5,rfl,h30,hb5⟩ | ⟨rfl,h30,hup,Lx,hM5,hIx⟩ <;> ((first | (have HL5:=hid hb5;clear hb5) | (have HL5:=hid hM5.low;have HM5:=hid hM5;have HIX:=hid hIx;clear hM5 hIx hup));have k3:=Nat.lt_of_lt_of_le hlt3 HL5.out.size;obtain ⟨⟨v0,v1,v2,v3⟩,vf⟩:=cells4 ((HL5.out.block _ hlt3).trans HV.out)))
  | (go_at_call 52;refine (askOps_any p an ai af ao cn ci cf co (HP.out.below HA3.out) HOK.out mc mi mf mn mx m Lc Li Lf Ln Lx HM5.out (xI p) (fI p) (iI p) HIX.out HMAPS.out.2.2.1 HMAPS.out.2.1 (inI_le _ _ _ 1000 (by rw [List.length_map];omega) (fun k j h => by cases h)) (ends_pg HOK.out HNM.out HCK.out)).mono ?_;rintro x w6 ⟨(⟨rfl,hfew⟩ | ⟨a6,rfl,hfew⟩),hb6⟩ <;> (have HL6:=hid (HL5.out.trans (hb6.mono HL5.out.size));have HM6:=hid (HM5.out.grow hb6);have k3:=Nat.lt_of_lt_of_le hlt3 HL6.out.size;obtain ⟨⟨v0,v1,v2,v3⟩,vf⟩:=cells4 ((HL6.out.block _ hlt3).trans HV.out);clear hb6))
  | (go_at_call 53;refine (flat_any p an ai af ao cn ci cf co (HP.out.below HA3.out) HOK.out mc mi mf mn mx m Lc Li Lf Ln Lx HM6.out (xI p) (fI p) (iI p) (nI p) HIX.out HMAPS.out.2.2.1 HMAPS.out.2.1 HMAPS.out.2.2.2 (inI_le _ _ _ 1000 (by rw [List.length_map];omega) (fun k j h => by cases h)) (fEnv p env) HMAPS.out.1 (ends_pg HOK.out HNM.out HCK.out) HPS.out h30 (fun o ho => by obtain ⟨i,hi,hoi⟩:=List.getElem_of_mem ho;have:=HNM.out.outs i hi;rw [hoi] at this;exact fI_has this)).mono ?_;rintro x w7 ⟨⟨vI,vN,vT,vL,rfl,r1,r2,r3,r4⟩,hb7⟩;have HR:=hid (And.intro r1 (And.intro r2 (And.intro r3 r4)));obtain ⟨aI,cI,rfl⟩:=r1.form;obtain ⟨aN,cN,rfl⟩:=r2.form;obtain ⟨aT,cT,rfl⟩:=r3.form;obtain ⟨aL,cL,rfl⟩:=r4.form;have HL7:=hid (HL6.out.trans (hb7.mono HL6.out.size));have HS7:=hid HL6.out.size;have k3:=Nat.lt_of_lt_of_le hlt3 HL7.out.size;obtain ⟨⟨v0,v1,v2,v3⟩,vf⟩:=cells4 ((HL7.out.block _ hlt3).trans HV.out);clear hb7 r1 r2 r3 r4))
 all_goals first
  | (refine bodyPost_ret (v:=.tuple #[zFlat,.int .i64 a6,.int .i64 8]) ?_ rfl ⟨.inl ⟨a6,8,by decide,rfl⟩,?_⟩;(focus (unfold zFlat;simp only [results,Tryz.results18];go_simp));exact bq)
  | (refine bodyPost_ret (v:=.tuple #[zFlat,.int .i64 a5,.int .i64 8]) ?_ rfl ⟨.inl ⟨a5,8,by decide,rfl⟩,?_⟩;(focus (unfold zFlat;simp only [results,Tryz.results18];go_simp));exact bq)
  | (refine bodyPost_ret (v:=.tuple #[zFlat,.int .i64 a3,.int .i64 e3]) ?_ rfl ⟨.inl ⟨a3,e3,he3,rfl⟩,?_⟩;(focus (unfold zFlat;simp only [results,Tryz.results18];go_simp));exact bq)
  | skip
 have hst:Stays 36 w7 ((((w7.setCell ⟨w.heap.size + 1,0,none⟩ (.slice aI (p.ins.map (fun x => (x.per,x.ph))).length cI)).setCell ⟨w.heap.size + 1,1,none⟩ (.slice aN p.nodes.length cN)).setCell ⟨w.heap.size + 1,2,none⟩ (.slice aT ((callsF p.flows 0).map (tkR p (xI p) (fI p) (iI p) (nI p) (fEnv p env))).length cT)).setCell ⟨w.heap.size + 1,3,none⟩ (.slice aL (p.outs.map (tlR p (xI p) (fI p) (iI p) (fEnv p env))).length cL)):=Stays.of_upon ((HL7.out.block _ hlt3).trans HV.out) (upon4 w7 (w.heap.size + 1) _ _ _ _)
 have hbse:w.heap.size ≤ w6.heap.size:=by have:=HA3.out.size;have:=HS7.out;omega
 obtain ⟨r1,r2,r3,r4⟩:=HR.out
 have hm:MakF p env w.heap.size _ (.agg #[.slice aI (p.ins.map (fun x => (x.per,x.ph))).length cI,.slice aN p.nodes.length cN,.slice aT ((callsF p.flows 0).map (tkR p (xI p) (fI p) (iI p) (nI p) (fEnv p env))).length cT,.slice aL (p.outs.map (tlR p (xI p) (fI p) (iI p) (fEnv p env))).length cL]):=⟨_,_,_,_,rfl,(r1.stays hst (by decide) (fun c x hc => hc)).mono hbse (fun c x hc => hc),(r2.stays hst (by decide) (fun c x hc => hc.stays hst (by decide) (by decide))).mono hbse (fun c x hc => hc),
  (r3.stays hst (by decide) (fun c x hc => hc.stays hst (by decide) (by decide))).mono hbse (fun c x hc => hc.mono hbse),(r4.stays hst (by decide) (fun c x hc => hc.stays hst (by decide))).mono hbse (fun c x hc => tellC_mono hc hbse)⟩
 simp only [List.length_map] at hm hst
 refine bodyPost_ret (v:=.tuple #[.agg #[.slice aI p.ins.length cI,.slice aN p.nodes.length cN,.slice aT (callsF p.flows 0).length cT,.slice aL p.outs.length cL],.int .i64 0,.int .i64 0]) ?_ rfl ⟨.inr ⟨_,env,rfl,hm,HCK.out,h30,hfew⟩,?_⟩
 ·simp only [results,Tryz.results18];go_simp
 ·exact bq
theorem make_len {w:World} (p:PG) (an ai af ao:Option Addr) (cn ci cf co:Nat) (hp:AP w p an ai af ao cn ci cf co) (hz:NZ w p.nodes an) (hok:PgOK p) (hN:NamesF p) (hps:∀ x ∈ p.nodes,x.ps.length ≤ 1000) (l:List (Int × Int)) (n:Nat) (hn:l.length = n) (bc:Nat) (hbc:bc < w.heap.size) (hl:l.length ≤ 1000) (hc:CkAt w bc l) :
  Calls Tryz.prog 18 #[pv p an ai af ao cn ci cf co,.slice (some ⟨bc,0,none⟩) n n] w fun x w' => MakeAns p w.heap.size x w' ∧ Below w.heap.size w w':=by
 subst hn
 exact make_any p an ai af ao cn ci cf co hp hz hok hN hps l bc hbc hl hc
theorem MakF.stays {p:PG} {env:Env} {base:Nat} {w w':World} {v:Value} (h:MakF p env base w v) (hst:Stays 36 w w'):MakF p env base w' v:=by
 obtain ⟨vI,vN,vT,vL,h0,h1,h2,h3,h4⟩:=h
 exact ⟨vI,vN,vT,vL,h0,h1.stays hst (by decide) (fun c x hc => hc),h2.stays hst (by decide) (fun c x hc => hc.stays hst (by decide) (by decide)),h3.stays hst (by decide) (fun c x hc => hc.stays hst (by decide) (by decide)),h4.stays hst (by decide) (fun c x hc => hc.stays hst (by decide))⟩
def MadeAns (p:PG) (base:Nat) (x:Ending) (w':World):Prop :=
 x = .returned (.tuple #[zFlat,.bool false]) ∨
  ∃ v env,x = .returned (.tuple #[v,.bool true]) ∧ MakF p env base w' v ∧ RightF p ∧ NamesF p ∧ ClkF p env ∧ (callsF p.flows 0).length ≤ 30 ∧ fewAll p (xI p) (fI p) (iI p) p.flows 0 = true
set_option maxRecDepth 100000 in
set_option maxHeartbeats 4000000 in
theorem made_any {w:World} (p:PG) (an ai af ao:Option Addr) (cn ci cf co:Nat) (hp:AP w p an ai af ao cn ci cf co) (hz:NZ w p.nodes an) (hsm:SmallP p) :
  Calls Tryz.prog 8 #[pv p an ai af ao cn ci cf co] w fun x w' => MadeAns p w.heap.size x w' ∧ Below w.heap.size w w':=by
 have HRI:=hid (fun (w':World) (hb:Below w.heap.size w w') => right_pg (w:=w') p an ai af ao cn ci cf co (hp.below hb) hsm)
 have HNA:=hid (fun (w':World) (hb:Below w.heap.size w w') (hr:RightF p) => names_ins (w:=w') p.nodes p.ins p.flows p.outs an ai af ao cn ci cf co (hp.below hb) (by have:=hr.lens;omega) (by have:=hr.lens;omega) (by have:=hr.lens;omega) (by have:=hr.lens;omega) (fun x hx => by have:=(hr.nodes x hx).2.1;omega))
 have HCL:=hid (fun (w':World) (hb:Below w.heap.size w w') (hr:RightF p) => clocks_gen (w:=w') p an ai af ao cn ci cf co (hp.below hb) hr.ok.sums (by have:=hr.lens;omega) hr.ok.ins)
 have HMA:=hid (fun (w':World) (hb:Below w.heap.size w w') (hr:RightF p) (hn:NamesF p) l n (hln:l.length = n) bc (hbc:bc < w'.heap.size) (hl:l.length ≤ 1000) (hc:CkAt w' bc l) => make_len (w:=w') p an ai af ao cn ci cf co (hp.below hb) (hz.below hp.nodes hb) hr.ok hn (fun x hx => by have:=(hr.nodes x hx).2.1;omega) l n hln bc hbc hl hc)
 clear hp hz hsm
 unfold pv at *
 go_enter Tryz.func8,Tryz.ntmps8
 go_upto_region 1 with fail
 obtain ⟨W2,hW2⟩:∃ W2,(w.alloc (.cells #[.slice an p.nodes.length cn,.slice ai p.ins.length ci,.slice af p.flows.length cf,.slice ao p.outs.length co] 27)).alloc (.cells #[.slice none 0 0,.slice none 0 0,.slice none 0 0,.slice none 0 0] 36) = W2:=⟨_,rfl⟩
 rw [hW2]
 have hB:Below w.heap.size w W2:=by rw [← hW2];exact bq
 have hs2:w.heap.size + 2 ≤ W2.heap.size:=by rw [← hW2];simp
 have hq0:W2.heap[w.heap.size]? = some (.cells #[.slice an p.nodes.length cn,.slice ai p.ins.length ci,.slice af p.flows.length cf,.slice ao p.outs.length co] 27 (0,0)):=by rw [← hW2];exact (Below.heap_alloc _ _ _ (by simp)).trans (heap_new w _)
 have hq1:W2.heap[w.heap.size + 1]? = some (.cells #[.slice none 0 0,.slice none 0 0,.slice none 0 0,.slice none 0 0] 36 (0,0)):=by rw [← hW2];simpa using heap_new (w.alloc (.cells #[.slice an p.nodes.length cn,.slice ai p.ins.length ci,.slice af p.flows.length cf,.slice ao p.outs.length co] 27)) (.cells #[.slice none 0 0,.slice none 0 0,.slice none 0 0,.slice none 0 0] 36)
 have HB:=hid hB
 have HQ0:=hid hq0
 have HQ1:=hid hq1
 obtain ⟨⟨x0,x1,x2,x3⟩,xf⟩:=cells4 hq0
 have hl0:w.heap.size < W2.heap.size:=by omega
 have hl1:w.heap.size + 1 < W2.heap.size:=by omega
 clear hW2 hB hq0 hq1
 go_wp2_with (first
  | (go_at_call 15;refine (HRI.out _ HB.out).mono ?_;rintro x w3 ⟨⟨b3,rfl,hb3⟩,hlo3⟩;have HL3:=hid (show Below W2.heap.size W2 w3 from hlo3);obtain ⟨⟨y0,y1,y2,y3⟩,yf⟩:=cells4 ((HL3.out.block _ hl0).trans HQ0.out);obtain ⟨⟨v0,v1,v2,v3⟩,vf⟩:=cells4 ((HL3.out.block _ hl1).trans HQ1.out);have hz3:=HL3.out.size;have HR3:=hid hb3;clear hb3 hlo3;cases b3)
  | (go_at_call 16;refine (HNA.out _ (HB.out.trans (HL3.out.mono oq)) (HR3.out (by trivial))).mono ?_;rintro x w4 ⟨⟨b4,rfl,hb4⟩,hlo4⟩;have HL4:=hid (HL3.out.trans (hlo4.mono hz3));obtain ⟨⟨y0,y1,y2,y3⟩,yf⟩:=cells4 ((HL4.out.block _ hl0).trans HQ0.out);obtain ⟨⟨v0,v1,v2,v3⟩,vf⟩:=cells4 ((HL4.out.block _ hl1).trans HQ1.out);have hz4:=HL4.out.size;have HN4:=hid hb4;clear hb4 hlo4;cases b4)
  | (go_at_call 17;refine (HCL.out _ (HB.out.trans (HL4.out.mono oq)) (HR3.out (by trivial))).mono ?_;rintro x w5 ⟨(⟨a5,e5,he5,rfl⟩ | ⟨v5,env5,rfl,hck5,⟨b5,rfl,hb5,hc5⟩⟩),hlo5⟩ <;> (have HL5:=hid (HL4.out.trans (hlo5.mono hz4));(obtain ⟨⟨y0,y1,y2,y3⟩,yf⟩:=cells4 ((HL5.out.block _ hl0).trans HQ0.out));(obtain ⟨⟨v0,v1,v2,v3⟩,vf⟩:=cells4 ((HL5.out.block _ hl1).trans HQ1.out));have hz5:=HL5.out.size;first | (have hne5:(e5 != 0) = true:=bne_iff_ne.2 he5) | (have HC5:=hid hc5;clear hc5);clear hlo5))
  | (go_at_call 18;refine (HMA.out _ (HB.out.trans (HL5.out.mono oq)) (HR3.out (by trivial)) (HN4.out (by trivial)) (p.flows.map (fun f:FL => clkAt env5 f.nm)) _ (List.length_map ..) b5 hb5 (by rw [List.length_map];have:=(HR3.out (by trivial)).lens;omega) HC5.out).mono ?_;rintro x w6 ⟨(⟨a6,e6,he6,rfl⟩ | ⟨v6,env,rfl,hmk,hck,h30,hfew⟩),hlo6⟩ <;> (have HL6:=hid (HL5.out.trans (hlo6.mono hz5));(obtain ⟨⟨v0,v1,v2,v3⟩,vf⟩:=cells4 ((HL6.out.block _ hl1).trans HQ1.out));have hz6:=HL6.out.size;have hk6:w.heap.size + 1 < w6.heap.size:=oq;have hk6n:¬ w.heap.size + 1 = w6.heap.size:=oq;have hle6:w.heap.size ≤ w5.heap.size:=oq;first | (have hne6:(e6 == 0) = false:=beq_eq_false_iff_ne.2 he6;unfold zFlat) | (have HMK:=hid hmk;obtain ⟨aI,cI,aN,cN,aT,cT,aL,cL,rfl⟩:=hmk.form;clear hmk);clear hlo6)))
 all_goals first
  | (have hq7:=(HL6.out.block _ hl1).trans HQ1.out;refine bodyPost_ret (v:=.tuple #[.agg #[.slice aI p.ins.length cI,.slice aN p.nodes.length cN,.slice aT (callsF p.flows 0).length cT,.slice aL p.outs.length cL],.bool true]) ?_ rfl ⟨.inr ⟨_,env,rfl,(HMK.out.mono hle6).stays ((Stays.of_upon hq7 (upon4 _ _ _ _ _ _)).trans (Stays.of_below ((Below.refl _ _).alloc (Nat.le_refl _) _))),HR3.out (by trivial),HN4.out (by trivial),hck,h30,hfew⟩,?_⟩;(focus (simp only [results,Tryz.results8];go_simp));exact bq)
  | (have hgd:=HL6.out;refine bodyPost_ret (v:=.tuple #[zFlat,.bool false]) ?_ rfl ⟨.inl rfl,?_⟩;(focus (unfold zFlat;simp only [results,Tryz.results8];go_simp));exact bq)
  | (have hgd:=HL5.out;refine bodyPost_ret (v:=.tuple #[zFlat,.bool false]) ?_ rfl ⟨.inl rfl,?_⟩;(focus (unfold zFlat;simp only [results,Tryz.results8];go_simp));exact bq)
  | (have hgd:=HL4.out;refine bodyPost_ret (v:=.tuple #[zFlat,.bool false]) ?_ rfl ⟨.inl rfl,?_⟩;(focus (unfold zFlat;simp only [results,Tryz.results8];go_simp));exact bq)
  | (have hgd:=HL3.out;refine bodyPost_ret (v:=.tuple #[zFlat,.bool false]) ?_ rfl ⟨.inl rfl,?_⟩;(focus (unfold zFlat;simp only [results,Tryz.results8];go_simp));exact bq)
  | skip
theorem flat_get {α:Type} {size:Nat}:∀ (cs:List (List α)) (i j:Nat),(∀ c ∈ cs,c.length = size) → ∀ h:i < cs.length,j < size → cs.flatten[i * size + j]? = cs[i][j]?
 | [],i,j,_,h,_ => absurd h (Nat.not_lt_zero _)
 | c :: cs,0,j,hl,_,hj => by
  have h1:c.length = size:=hl c (by simp)
  rw [List.flatten_cons,Nat.zero_mul,Nat.zero_add,List.getElem?_append_left oq]
  rfl
 | c :: cs,i + 1,j,hl,h,hj => by
  have h1:c.length = size:=hl c (by simp)
  have e:(i + 1) * size + j = c.length + (i * size + j):=by rw [h1,Nat.succ_mul];omega
  rw [List.flatten_cons,e,List.getElem?_append_right oq,Nat.add_sub_cancel_left]
  rw [flat_get cs i j (fun c' hc => hl c' (by simp [hc])) (by simpa using h) hj]
  rfl
theorem RowM.row {α β:Type} {Pe:World → List Value → α → Prop} {P:World → Nat → Nat → β → Prop} {e:TypeId} {size:Nat} {w:World} {base:Nat} {v:Value} {l:List α} (F:α → β) (h:RowM Pe e size w base v l)
  (hP:∀ (g o:Nat) (c:List Value) (x:α),g < w.heap.size → x ∈ l → c.length = size → Pe w c x → (∀ j,j < size → w.cell? ⟨g,o + j,none⟩ = c[j]?) → P w g o (F x)) :
  ∃ ad cap,v = .slice ad l.length cap ∧ Row P size w (l.map F) ad:=by
 obtain ⟨cs,h1,h2,h3,h4⟩:=h
 rcases h2.2 with ⟨rfl,h0⟩ | ⟨g,cap,cur,rfl,hbg,hg,hnc,hcm,hcs,htk⟩
 ·obtain rfl:l = []:=List.eq_nil_of_length_eq_zero h0
  exact ⟨none,0,rfl,.inl rfl⟩
 ·refine ⟨_,_,rfl,?_⟩
  by_cases hl:l = []
  ·exact .inl (by rw [hl];rfl)
  ·refine .inr ⟨g,0,rfl,lt_of_block hg,fun i hi => ?_⟩
   have hi2:i < l.length:=by simpa using hi
   have hi3:i < cs.length:=by omega
   rw [List.getElem_map]
   refine hP g _ cs[i] l[i] (lt_of_block hg) (List.getElem_mem hi2) (h3 _ (List.getElem_mem hi3)) (h4 i hi2 hi3) (fun j hj => ?_)
   rw [← flat_get cs i j h3 hi3 hj,← htk,List.getElem?_take_of_lt (by
    have:(i + 1) * size ≤ l.length * size:=Nat.mul_le_mul_right _ hi2
    rw [Nat.succ_mul] at this
    omega),Array.getElem?_toList,Nat.zero_add]
   exact cell_row hg _
theorem opsV_flat:∀ l:List Op3,opsV l = (l.map opL).flatten
 | [] => rfl
 | o :: l => by
  rw [List.map_cons,List.flatten_cons,← opsV_flat l]
  rfl
theorem ops_row {w:World} {base:Nat} {v:Value} {ops:List Op3} (h:w.ownsRow base 199 3 v ops.length (opsV ops)):∃ ad cap,v = .slice ad ops.length cap ∧ Row OpR 3 w ops ad:=by
 have hm:RowM (fun _ c (x:Op3) => c = opL x) 199 3 w base v ops:=⟨ops.map opL,by simp,by rw [← opsV_flat];exact h,fun c hc => by obtain ⟨x,_,rfl⟩:=List.mem_map.1 hc;rfl,fun i hi hi' => by rw [List.getElem_map]⟩
 have:=hm.row (P:=OpR) (fun x => x) (fun g o c x hg hx hc hPe hcell => by
  subst hPe
  exact ⟨hcell 0 oq,hcell 1 oq,hcell 2 oq⟩)
 rwa [List.map_id'] at this
theorem clk_row {w:World} {base:Nat} {v:Value} {l:List (Int × Int)} (h:RowM ClkC 49 2 w base v l):∃ ad cap,v = .slice ad l.length cap ∧ Row ClkR 2 w l ad:=by
 have:=h.row (P:=ClkR) (fun x => x) (fun g o c x hg hx hc hPe hcell => by
  have hPe:c = [.int .i64 x.1,.int .i64 x.2]:=hPe
  subst hPe
  exact ⟨hcell 0 oq,hcell 1 oq⟩)
 rwa [List.map_id'] at this
def toAD (a:Nat × List Op3):AD:=⟨(a.1:Int),a.2⟩
def toTD (t:TK):TD:=⟨t.node,t.per,t.ph,t.args.map toAD⟩
def toLD (t:TL):LD:=⟨t.per,t.ph,⟨(t.src:Int),t.ops⟩,t.dl⟩
def toNB (x:ND):NB:=⟨x.bud,x.ps.length⟩
theorem arg_row {w:World} {base:Nat} {v:Value} {l:List (Nat × List Op3)} (h:RowM (ArgC base) 73 2 w base v l):∃ ad cap,v = .slice ad l.length cap ∧ Row ArgR 2 w (l.map toAD) ad :=
 h.row (P:=ArgR) toAD (fun g o c x hg hx hc hPe hcell => by
  obtain ⟨u,rfl,ho⟩:=hPe
  obtain ⟨ad2,cap2,rfl,hr⟩:=ops_row ho
  exact ⟨hcell 0 oq,ad2,cap2,hcell 1 oq,hr⟩)
theorem task_row {w:World} {base:Nat} {v:Value} {l:List TK} (h:RowM (TaskC base) 100 4 w base v l):∃ ad cap,v = .slice ad l.length cap ∧ Row TskR 4 w (l.map toTD) ad :=
 h.row (P:=TskR) toTD (fun g o c x hg hx hc hPe hcell => by
  obtain ⟨u,rfl,ho⟩:=hPe
  obtain ⟨ad2,cap2,rfl,hr⟩:=arg_row ho
  exact ⟨hcell 0 oq,hcell 1 oq,hcell 2 oq,ad2,cap2,by rw [show (toTD x).args.length = x.args.length by simp [toTD]];exact hcell 3 oq,hr⟩)
theorem tell_row {w:World} {base:Nat} {v:Value} {l:List TL} (h:RowM (TellC base) 75 5 w base v l):∃ ad cap,v = .slice ad l.length cap ∧ Row TelR 5 w (l.map toLD) ad :=
 h.row (P:=TelR) toLD (fun g o c x hg hx hc hPe hcell => by
  obtain ⟨u,rfl,ho⟩:=hPe
  obtain ⟨ad2,cap2,rfl,hr⟩:=ops_row ho
  exact ⟨hcell 0 oq,hcell 1 oq,hcell 2 oq,hcell 4 oq,ad2,cap2,hcell 3 oq,hr⟩)
theorem node_row {w:World} {base:Nat} {v:Value} {l:List ND} (h:RowM NodC 97 10 w base v l):∃ ad cap,v = .slice ad l.length cap ∧ Row NdR 10 w (l.map toNB) ad :=
 h.row (P:=NdR) toNB (fun g o c x hg hx hc hPe hcell => by
  obtain ⟨pa,pc,ad,cap,rfl,_⟩:=hPe
  exact ⟨_,_,_,_,_,_,_,_,_,_,_,_,hcell 0 oq,hcell 1 oq,hcell 2 oq,hcell 3 oq,hcell 4 oq,hcell 5 oq,hcell 6 oq,hcell 7 oq,hcell 8 oq,hcell 9 oq⟩)
theorem argGo_few {flows:List FL} {nI:Nat} {xIx fIx iIx:IE}:∀ (N:Nat) (e:PE) (way:ByteArray) (ops:List Op3) (r:Nat × List Op3),ops.length ≤ 21 → argGo flows nI xIx fIx iIx N e way ops = some r → r.2.length ≤ 21
 | 0,e,way,ops,r,hl,h => by cases h
 | N + 1,e,way,ops,r,hl,h => by
  unfold argGo at h
  split at h
  ·cases h;exact hl
  ·rename_i h20
   split at h
   ·cases h;exact hl
   ·split at h
    ·split at h
     ·exact argGo_few N _ _ _ r (by rw [List.length_append,List.length_cons,List.length_nil];omega) h
     ·cases h
    ·split at h
     ·split at h
      ·exact argGo_few N _ _ _ r hl h
      ·cases h
     ·cases h;exact hl
theorem argGo_src {flows:List FL} {nI:Nat} {xIx fIx iIx:IE} (hx:∀ k j,xIx k = some j → j ≤ 1000) (hi:∀ k j,iIx k = some j → j ≤ 1000) (hn:nI ≤ 1000):∀ (N:Nat) (e:PE) (way:ByteArray) (ops:List Op3) (r:Nat × List Op3),argGo flows nI xIx fIx iIx N e way ops = some r → r.1 ≤ 2000
 | 0,e,way,ops,r,h => by cases h
 | N + 1,e,way,ops,r,h => by
  unfold argGo at h
  split at h
  ·cases h;exact Nat.zero_le _
  ·split at h
   ·cases h
    show nI + (xIx way).getD 0 ≤ 2000
    cases hq:xIx way with
    | none => simp;omega
    | some j => have:=hx _ _ hq;simp;omega
   ·split at h
    ·split at h
     ·exact argGo_src hx hi hn N _ _ _ r h
     ·cases h
    ·split at h
     ·split at h
      ·exact argGo_src hx hi hn N _ _ _ r h
      ·cases h
     ·cases h
      show (iIx e.nm).getD 0 ≤ 2000
      cases hq:iIx e.nm with
      | none => simp
      | some j => have:=hi _ _ hq;simp;omega
theorem spots_ok:∀ (l:PL) (way:ByteArray) (i:Nat),exR l = true → ∀ s ∈ spotsL l way i,exprOK s.1 = true ∧ s.1.args.sz + 1 ≤ l.sz:=by
 intro l
 induction l with
 | nil => intro way i h s hs;simp [spotsL] at hs
 | cons k nm n d args a tl ih1 ih2 =>
  intro way i h s hs
  have h0:=exR_at (.cons k nm n d args a tl) 0 ⟨k,nm,n,d,args,a⟩ h rfl
  have h1:exR args = true:=by
   have:=h0
   unfold exprOK at this
   rw [Bool.and_eq_true] at this
   exact this.1
  have h2:exR tl = true:=by
   rw [exR,Bool.and_eq_true] at h
   exact h.2
  simp only [spotsL,List.mem_cons,List.mem_append] at hs
  rw [show (PL.cons k nm n d args a tl).sz = args.sz + 1 + tl.sz from rfl]
  rcases hs with rfl | hs | hs
  ·exact ⟨h0,by show args.sz + 1 ≤ _;omega⟩
  ·obtain ⟨h3,h4⟩:=ih1 _ _ h1 s hs
   exact ⟨h3,by omega⟩
  ·obtain ⟨h3,h4⟩:=ih2 _ _ h2 s hs
   exact ⟨h3,by omega⟩
theorem spotsE_ok {e:PE} {way:ByteArray} (h:exprOK e = true):∀ s ∈ spotsE e way,exprOK s.1 = true ∧ s.1.args.sz + 1 ≤ e.sz:=by
 intro s hs
 unfold spotsE at hs
 rcases List.mem_cons.1 hs with rfl | hs
 ·exact ⟨h,Nat.le_refl _⟩
 ·have h1:=h
  unfold exprOK at h1
  rw [Bool.and_eq_true] at h1
  obtain ⟨h3,h4⟩:=spots_ok _ _ _ h1.1 s hs
  exact ⟨h3,by unfold PE.sz;omega⟩
theorem callsF_ok:∀ (l:List FL) (i:Nat),(∀ f ∈ l,f.e.sz ≤ 100 ∧ exprOK f.e = true) → ∀ s ∈ callsF l i,exprOK s.1 = true ∧ s.1.args.sz + 1 ≤ 100 ∧ s.1.k = 2
 | [],i,h,s,hs => by simp [callsF] at hs
 | f :: l,i,h,s,hs => by
  unfold callsF at hs
  rcases List.mem_append.1 hs with hs | hs
  ·obtain ⟨h1,h2⟩:=List.mem_filter.1 hs
   obtain ⟨h3,h4⟩:=spotsE_ok (h f (by simp)).2 s h1
   have:=(h f (by simp)).1
   exact ⟨h3,by omega,by simpa [isC] using h2⟩
  ·exact callsF_ok l (i + 1) (fun f' hf => h f' (by simp [hf])) s hs
theorem kids_mem:∀ (l:PL) (way:ByteArray) (i:Nat),exR l = true → ∀ k ∈ kidsE l way i,exprOK k.1 = true:=by
 intro l
 induction l with
 | nil => intro way i h k hk;simp [kidsE] at hk
 | cons k nm n d args a tl ih1 ih2 =>
  intro way i h s hs
  have h0:=exR_at (.cons k nm n d args a tl) 0 ⟨k,nm,n,d,args,a⟩ h rfl
  have h2:exR tl = true:=by
   rw [exR,Bool.and_eq_true] at h
   exact h.2
  simp only [kidsE,List.mem_cons] at hs
  rcases hs with rfl | hs
  ·exact h0
  ·exact ih2 _ _ h2 s hs
noncomputable def fdOf (p:PG) (env:Env):FD :=
 ⟨p.ins.map (fun x => (x.per,x.ph)),p.nodes.map toNB,(callsF p.flows 0).map (fun s => toTD (tkR p (xI p) (fI p) (iI p) (nI p) (fEnv p env) s)),p.outs.map (fun o => toLD (tlR p (xI p) (fI p) (iI p) (fEnv p env) o))⟩
theorem argR_ok {p:PG} (hE:∀ e:PE,exprOK e = true → ArgEnds p.flows p.ins.length (xI p) (fI p) (iI p) e) (h30:(callsF p.flows 0).length ≤ 30) (hin:p.ins.length ≤ 1000) {e:PE} (he:exprOK e = true) (way:ByteArray) :
  (argR p (xI p) (fI p) (iI p) e way).2.length ≤ 21 ∧ (argR p (xI p) (fI p) (iI p) e way).1 ≤ 2000:=by
 obtain ⟨N,hN⟩:=argR_spec (hE e he) way
 exact ⟨argGo_few N _ _ _ _ (by simp) hN,argGo_src (inI_le _ _ _ 1000 (by rw [List.length_map];omega) (fun k j h => by cases h)) (inI_le _ _ _ 1000 (by rw [List.length_map];omega) (fun k j h => by cases h)) hin N _ _ _ _ hN⟩
theorem mak_fap {p:PG} {env:Env} {base:Nat} {w:World} {v:Value} (h:MakF p env base w v) (hok:PgOK p) (hE:∀ e:PE,exprOK e = true → ArgEnds p.flows p.ins.length (xI p) (fI p) (iI p) e) (h30:(callsF p.flows 0).length ≤ 30)
  (hout:∀ o ∈ p.outs,∃ j,fI p o.fl = some j ∧ j < p.flows.length) :
  ∃ ai an aT al ci cn ct cl,v = fv (fdOf p env) ai an aT al ci cn ct cl ∧ FAP w (fdOf p env) ai an aT al:=by
 obtain ⟨vI,vN,vT,vL,rfl,r1,r2,r3,r4⟩:=h
 obtain ⟨ai,ci,rfl,q1⟩:=clk_row r1
 obtain ⟨an,cn,rfl,q2⟩:=node_row r2
 obtain ⟨aT,ct,rfl,q3⟩:=task_row r3
 obtain ⟨al,cl,rfl,q4⟩:=tell_row r4
 have hl:=hok.lens
 rw [List.map_map] at q3 q4
 refine ⟨ai,an,aT,al,ci,cn,ct,cl,by unfold fv fdOf;simp only [List.length_map],q1,q2,q3,q4,by unfold fdOf;simp only [List.length_map];omega,?_,?_⟩
 ·intro t ht
  obtain ⟨s,hs,rfl⟩:=List.mem_map.1 ht
  obtain ⟨h1,h2,_⟩:=callsF_ok p.flows 0 hok.flows s hs
  have h3:=len_le_sz s.1.args
  have h4:exR s.1.args = true:=by
   unfold exprOK at h1
   rw [Bool.and_eq_true] at h1
   exact h1.1
  refine ⟨by simp [toTD,tkR,kidsE_len];omega,fun a ha => ?_⟩
  simp only [toTD,tkR,List.map_map,List.mem_map] at ha
  obtain ⟨kd,hkd,rfl⟩:=ha
  obtain ⟨g1,g2⟩:=argR_ok hE h30 oq (kids_mem _ _ _ h4 kd hkd) kd.2
  simp only [Function.comp,toAD,List.length_reverse,I64]
  omega
 ·intro t ht
  obtain ⟨o,ho,rfl⟩:=List.mem_map.1 ht
  obtain ⟨j,hj,hjl⟩:=hout o ho
  have hx:exprOK (flE p ((fI p o.fl).getD 0)) = true:=by
   rw [hj]
   unfold flE
   rw [Option.getD_some,List.getElem?_eq_getElem hjl]
   exact (hok.flows _ (List.getElem_mem hjl)).2
  obtain ⟨g1,g2⟩:=argR_ok hE h30 oq hx (dg ((fI p o.fl).getD 0))
  simp only [toLD,tlR,List.length_reverse,I64]
  omega
open Go.RowKit
theorem inB_b {n lo hi:Int} (h:inB n lo hi = true) (h1:-1000000000 ≤ lo) (h2:hi ≤ 1000000000):B64 n:=by
 unfold inB at h
 simp only [Bool.and_eq_true,decide_eq_true_eq] at h
 unfold B64
 omega
theorem bdE_n {k n d:Int} {nm:ByteArray} {len:Nat} (h:bdE k n d nm len = true):B64 n:=by
 have h0:B64 0:=by unfold B64;omega
 unfold bdE at h
 split at h
 ·cases h
 ·split at h
  ·simp only [Bool.and_eq_true,decide_eq_true_eq] at h
   rw [h.2];exact h0
  ·split at h
   ·simp only [Bool.and_eq_true] at h
    exact inB_b h.2 oq oq
   ·split at h
    ·cases h
    ·rename_i hk
     have:n = 0:=by
      by_cases hn:n = 0
      ·exact hn
      ·exact absurd (Or.inr hn) hk
     rw [this];exact h0
theorem bdR_n64:∀ l:PL,bdR l = true → l.n64
 | .nil,_ => trivial
 | .cons k nm n d args a tl,h => by
  rw [bdR,Bool.and_eq_true,Bool.and_eq_true] at h
  exact ⟨bdE_n h.1.2,bdR_n64 args h.1.1,bdR_n64 tl h.2⟩
theorem bodyB_n64 {e:PE} (h:bodyB e = true):e.n64:=by
 unfold bodyB at h
 rw [Bool.and_eq_true] at h
 exact ⟨bdE_n h.2,bdR_n64 _ h.1⟩
theorem exE_n {k n d:Int} {nm:ByteArray} {len:Nat} (h:exE k n d nm len = true):B64 n:=by
 have h0:B64 0:=by unfold B64;omega
 unfold exE at h
 split at h
 ·simp only [Bool.and_eq_true,decide_eq_true_eq] at h
  rw [h.1.2];exact h0
 ·split at h
  ·simp only [Bool.and_eq_true,decide_eq_true_eq] at h
   rw [h.1.2];exact h0
  ·split at h
   ·cases h
   ·split at h
    ·exact inB_b h oq oq
    ·split at h
     ·simp only [Bool.and_eq_true] at h
      exact inB_b h.1 oq oq
     ·split at h
      ·exact inB_b h oq oq
      ·simp only [Bool.and_eq_true,decide_eq_true_eq] at h
       rw [h.2];exact h0
theorem argGo_num {flows:List FL} {nI:Nat} {xIx fIx iIx:IE} (hf:∀ f ∈ flows,exprOK f.e = true):∀ (N:Nat) (e:PE) (way:ByteArray) (ops:List Op3) (r:Nat × List Op3),exprOK e = true → (∀ o ∈ ops,B64 o.2.1) → argGo flows nI xIx fIx iIx N e way ops = some r → ∀ o ∈ r.2,B64 o.2.1
 | 0,e,way,ops,r,he,ho,h => by cases h
 | N + 1,e,way,ops,r,he,ho,h => by
  have hen:B64 e.n ∧ exR e.args = true:=by
   unfold exprOK at he
   rw [Bool.and_eq_true] at he
   exact ⟨exE_n he.2,he.1⟩
  unfold argGo at h
  split at h
  ·cases h;exact ho
  ·split at h
   ·cases h;exact ho
   ·split at h
    ·split at h
     ·rename_i c hc
      refine argGo_num hf N _ _ _ r (exR_at _ _ _ hen.2 hc) (fun o h1 => ?_) h
      rcases List.mem_append.1 h1 with h1 | h1
      ·exact ho o h1
      ·rw [List.mem_singleton.1 h1];exact hen.1
     ·cases h
    ·split at h
     ·split at h
      ·rename_i f hfl
       exact argGo_num hf N _ _ _ r (hf f (List.mem_of_getElem? hfl)) ho h
      ·cases h
     ·cases h;exact ho
theorem backA_num:∀ (l:List Op3) (n:Int) (e:Int × Int × Int),index.backA l n = .error e → e.2.1 = 0 ∨ ∃ o ∈ l,e.2.1 = o.2.1
 | [],n,e,h => by cases h
 | o :: r,n,e,h => by
  unfold index.backA at h
  cases hs:index.stepA o n with
  | ok t =>
   rw [hs] at h
   rcases backA_num r t e h with h | ⟨o',h1,h2⟩
   ·exact .inl h
   ·exact .inr ⟨o',List.mem_cons_of_mem _ h1,h2⟩
  | error e' =>
   rw [hs] at h
   cases h
   unfold index.stepA at hs
   split at hs
   ·cases hs
    exact .inr ⟨o,by simp,rfl⟩
   ·split at hs
    ·cases hs
    ·cases hs
     exact .inl rfl
theorem backP_num (l:List Op3) (h:∀ o ∈ l,B64 o.2.1) (n:Int):B64 (index.backP l n).2.1:=by
 have h0:B64 0:=by unfold B64;omega
 unfold index.backP
 split
 ·exact h0
 ·cases hb:index.backA l.reverse n with
  | ok m => exact h0
  | error e =>
   rcases backA_num _ _ _ hb with h1 | ⟨o,h1,h2⟩
   ·show B64 e.2.1
    rw [h1];exact h0
   ·show B64 e.2.1
    rw [h2];exact h o (List.mem_reverse.1 h1)
def toNE (x:ND):NE:=⟨x.bud,x.ps,x.body⟩
theorem nde_row {w:World} {base:Nat} {v:Value} {l:List ND} (h:RowM NodC 97 10 w base v l):∃ ad cap,v = .slice ad l.length cap ∧ Row NdE 10 w (l.map toNE) ad :=
 h.row (P:=NdE) toNE (fun g o c x hg hx hc hPe hcell => by
  obtain ⟨pa,pc,ad,cap,rfl,hps,hcap,hsl⟩:=hPe
  refine ⟨x.nm,pa,pc,ad,cap,x.a,hcell 0 oq,hcell 1 oq,hcell 2 oq,hcell 3 oq,hcell 4 oq,hcell 5 oq,hcell 6 oq,hcell 7 oq,hcell 8 oq,hcell 9 oq,?_,hcap,hsl⟩
  rcases hps.2 with ⟨_,hn⟩ | ⟨g2,cap2,cur,e,hb,hg2,_⟩
  ·exact .inl (List.eq_nil_of_length_eq_zero hn)
  ·injection e with e1 e2 e3
   subst e1
   exact .inr ⟨g2,0,rfl,lt_of_block hg2,fun i y hy => by
    rw [Nat.zero_add]
    exact (World.ownsRow.cellAt hps i (by rw [Nat.mul_one];exact (List.getElem?_eq_some_iff.1 hy).1)).trans (by rw [List.getElem?_map,show x.ps[i]? = some y from hy];rfl)⟩)
theorem md_of {p:PG} {base:Nat} {x:Ending} {w':World} (h:MadeAns p base x w'):MdAns x w':=by
 rcases h with h | ⟨v,env,hx,hmk,hr,hN,hC,h30,hfew⟩
 ·exact .inl h
 ·have hok:=hr.ok
  have hE:=ends_pg hok hN hC
  have hout:∀ o ∈ p.outs,∃ j,fI p o.fl = some j ∧ j < p.flows.length:=fun o ho => by
   obtain ⟨i,hi,hoi⟩:=List.getElem_of_mem ho
   have:=hN.outs i hi
   rw [hoi] at this
   exact fI_has this
  obtain ⟨ai,an,aT,al,ci,cn,ct,cl,hv,hf⟩:=mak_fap hmk hok hE h30 hout
  obtain ⟨vI,vN,vT,vL,hv2,_,r2,_,_⟩:=hmk
  obtain ⟨ad,cap,hvN,hrow⟩:=nde_row r2
  have had:ad = an:=by
   rw [hv2] at hv
   unfold fv at hv
   injection hv with hv
   have h1:=congrArg (fun a:Array Value => a[1]?) hv
   rw [hvN] at h1
   simp at h1
   exact h1.1
  subst had
  refine .inr ⟨fdOf p env,p.nodes.map toNE,ai,ad,aT,al,ci,cn,ct,cl,by rw [hx,hv],hf,hrow,by simp [fdOf],fun n hn => ?_,fun t ht a ha n => ?_⟩
  ·obtain ⟨y,hy,rfl⟩:=List.mem_map.1 hn
   have h1:=hr.nodes y hy
   have h2:=(hok.nodes y hy).2
   exact ⟨by show y.ps.length ≤ 1000;omega,by show y.body.sz ≤ 1000;omega,bodyB_n64 h1.2.2.2.2⟩
  ·obtain ⟨s,hs,rfl⟩:=List.mem_map.1 ht
   obtain ⟨h1,h2,_⟩:=callsF_ok p.flows 0 hok.flows s hs
   have h4:exR s.1.args = true:=by
    unfold exprOK at h1
    rw [Bool.and_eq_true] at h1
    exact h1.1
   simp only [toTD,tkR,List.map_map,List.mem_map] at ha
   obtain ⟨kd,hkd,rfl⟩:=ha
   refine backP_num _ (fun o ho => ?_) n
   have he:=kids_mem _ _ _ h4 kd hkd
   obtain ⟨N,hN2⟩:=argR_spec (hE kd.1 he) kd.2
   refine argGo_num (fun f hf => (hok.flows f hf).2) N _ _ _ _ he (fun o h => by cases h) hN2 o ?_
   simpa [Function.comp,toAD] using ho
end Go.Proofs.YtpjficjlfibibaaGreatDoor.syn
