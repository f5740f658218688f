/-
  Parts of the proof: Str6.
-/
import Derived.Deep.AppendLies
import Derived.Deep.RegionHeld3
import Derived.Test.YtpjficjlfibibaaGreatDoorQ11
namespace Go.Proofs.YtpjficjlfibibaaGreatDoor.syn
open Go.RowKit
set_option linter.unusedVariables false
set_option linter.unusedSimpArgs false
theorem StM.below {wI W0 w w':World} {mb vb ni ci cn nn ct cin cv:Nat} {ai an aT ain:Option Addr} {tks:List TD} {inl vals:List (List Int)} {vs:List Value} (h:StM wI W0 w mb vb ai an aT ni ci cn nn tks ct ain inl cin cv vs vals) (hb:Below w.heap.size w w'):StM wI W0 w' mb vb ai an aT ni ci cn nn tks ct ain inl cin cv vs vals :=
 ⟨h.old,h.but.trans (But.of_below hb),h.lo,h.c0,h.c1,h.c2,h.c4,h.c5,(hb.block vb (lt_of_block h.row)).trans h.row,h.fam.below hb⟩
theorem turn_no {ni:Nat} {inl vals:List (List Int)} {nds:List NE} {tks:List TD} {date:Int} {t:Nat} {d:TD} (hd:tks[t]? = some d) (h:¬ dateV d.per d.ph ((vals.getD t []).length:Int) = date):turnV ni inl nds tks date vals t = vals:=by
 unfold turnV
 rw [hd]
 simp only
 split
 ·rfl
 ·rw [if_neg h]
theorem turn_yes {ni:Nat} {inl vals:List (List Int)} {nds:List NE} {tks:List TD} {date:Int} {t:Nat} {d:TD} {nd:NE} (hd:tks[t]? = some d) (hn:nds[d.node.toNat]? = some nd) (h:dateV d.per d.ph ((vals.getD t []).length:Int) = date):turnV ni inl nds tks date vals t = vals.set t (vals.getD t [] ++ [jobV ni inl vals nd d.args ((vals.getD t []).length:Int)]):=by
 unfold turnV
 rw [hd]
 simp only
 rw [hn]
 simp only
 rw [if_pos h]
def TkS (mb bt ot t vb nv cv nt ct:Nat) (k per ph:Int) (ta:Option Addr) (na tc:Nat) (w':World):Prop:=w'.cell? ⟨mb,5,none⟩ = some (.slice (some ⟨vb,0,none⟩) nv cv) ∧ w'.cell? ⟨mb,2,none⟩ = some (.slice (some ⟨bt,ot,none⟩) nt ct) ∧ w'.cell? ⟨bt,ot + t * 4,none⟩ = some (.int .i64 k) ∧ w'.cell? ⟨bt,ot + t * 4 + 1,none⟩ = some (.int .i64 per) ∧ w'.cell? ⟨bt,ot + t * 4 + 2,none⟩ = some (.int .i64 ph) ∧ w'.cell? ⟨bt,ot + t * 4 + 3,none⟩ = some (.slice ta na tc)
theorem tkS_keep {mb bt ot t vb nv cv nt ct:Nat} {k per ph:Int} {ta:Option Addr} {na tc:Nat} {w w':World} (h:TkS mb bt ot t vb nv cv nt ct k per ph ta na tc w) (h1:w'.heap[mb]? = w.heap[mb]?) (h2:w'.heap[bt]? = w.heap[bt]?):TkS mb bt ot t vb nv cv nt ct k per ph ta na tc w':=by
 obtain ⟨s0,s1,s2,s3,s4,s5⟩:=h
 have c1:=fun o => World.cell?_of_block (w:=w) (w':=w') (a:=⟨mb,o,none⟩) h1
 have c2:=fun o => World.cell?_of_block (w:=w) (w':=w') (a:=⟨bt,o,none⟩) h2
 exact ⟨(c1 _).trans s0,(c1 _).trans s1,(c2 _).trans s2,(c2 _).trans s3,(c2 _).trans s4,(c2 _).trans s5⟩
theorem block_then2 (l:Nat) (K:Act → World → Prop) (Q:Exit → Act → World → Prop):Exit.inBlock l (Exit.then K Q) = Exit.then K (Exit.inBlock l (Exit.then K Q)):=by
 funext e a w
 cases e <;> rfl
set_option maxRecDepth 100000 in
set_option maxHeartbeats 16000000 in
theorem step_any {wI W0 w:World} {mb vb ni ci cn nn ct cin cv:Nat} {ai an aT ain:Option Addr} {tks:List TD} {inl vals:List (List Int)} {vs:List Value} (h:StM wI W0 w mb vb ai an aT ni ci cn nn tks ct ain inl cin cv vs vals) (hin:RowLL wI ain inl) {nds:List NE} (hn:nds.length = nn) (hr:Row NdE 10 wI nds an) (hok:∀ n ∈ nds,n.ok) (htk:Row TskR 4 wI tks aT) (hT:TskOK ni nds tks) (hN:Nums tks) (hvl:vals.length = tks.length) {m' m:Nat} (hbi:Bv m' inl) (hbv:Bv m vals) (hm:m ≤ 1000000000)
  (order:List Nat) (ao:Option Addr) (co:Nat) (hol:order.length ≤ 1000) (hor:RowL wI (fun t:Nat => Value.int .i64 (t:Int)) ao order) (hot:∀ t ∈ order,t < tks.length) (date:Int) :
  Calls Tryz.prog 54 #[.pointer (some ⟨mb,0,none⟩),.slice ao order.length co,.int .i64 date] w fun y w' => y = .returned (.tuple #[]) ∧ ∃ vs',StM wI W0 w' mb vb ai an aT ni ci cn nn tks ct ain inl cin cv vs' (stepV ni inl nds tks order date vals):=by
 have HST:=hid h
 have HC:=hid (And.intro hin (And.intro hr (And.intro htk hor)))
 have HP:=hid (And.intro hT (And.intro hN (And.intro hok (And.intro hbi hot))))
 have HBV:=hid (And.intro hbv hvl)
 obtain ⟨V,hV⟩:∃ V:Nat → List (List Int),V = fun i => (order.take i).foldl (turnV ni inl nds tks date) vals:=⟨_,rfl⟩
 have hV0:V 0 = vals:=by rw [hV];rfl
 have hVs:∀ i (hi:i < order.length),V (i + 1) = turnV ni inl nds tks date (V i) order[i]:=fun i hi => by
  rw [hV]
  simp only
  rw [List.take_add_one,List.getElem?_eq_getElem hi,Option.toList_some,List.foldl_append]
  rfl
 have hVe:stepV ni inl nds tks order date vals = V order.length:=by rw [hV];simp only;rw [List.take_length];rfl
 rw [hVe]
 have HV:=hid (And.intro hV0 hVs)
 clear h hin hr hok htk hT hN hvl hbi hbv hor hot hV hV0 hVs hVe
 go_enter Tryz.func54,Tryz.ntmps54
 go_wp2
 go_loopw [11] (fun s11 wr => Hid (∃ i vs',s11 = .int .i64 ((i:Nat):Int) ∧ i ≤ order.length ∧ Bv (m + i) (V i) ∧ (V i).length = tks.length ∧ StM wI W0 wr mb vb ai an aT ni ci cn nn tks ct ain inl cin cv vs' (V i))) (fun s _ => order.length - (intOf s).toNat)
 case atStart => exact ⟨0,vs,rfl,Nat.zero_le _,by rw [HV.out.1];exact HBV.out.1,by rw [HV.out.1];exact HBV.out.2,by rw [HV.out.1];exact HST.out⟩
 case round =>
  clear HST HBV
  obtain ⟨wo,rfl⟩:∃ wo:World,wo = wr:=⟨_,rfl⟩
  obtain ⟨i,vs',rfl,hi,hbv,hvl,hst⟩:=hrel.out
  clear hrel
  by_cases hio:i < order.length
  ·have hst1:=HV.out.2 i hio
   obtain ⟨t,ht⟩:∃ t,order[i] = t:=⟨_,rfl⟩
   rw [ht] at hst1
   have htt:t < tks.length:=by rw [← ht];exact HP.out.2.2.2.2 _ (List.getElem_mem hio)
   obtain ⟨d,hd⟩:∃ d,tks[t]? = some d:=⟨_,List.getElem?_eq_getElem htt⟩
   have hdm:d ∈ tks:=List.mem_of_getElem? hd
   obtain ⟨k,hk1,hk2⟩:=HP.out.1.node d hdm
   obtain ⟨ha1,ha2⟩:=HP.out.1.args d hdm
   have htV:t < (V i).length:=by omega
   obtain ⟨a,c,hv,hcell,how⟩:=hst.val htV
   have hgd:(V i).getD t [] = (V i)[t]:=by simp [List.getD,htV]
   have hlow:=hst.low
   obtain ⟨bo,oo,rfl,hbo,hco⟩:=HC.out.2.2.2.resolve_left (fun e => by rw [e] at hio;simp at hio)
   have o1:wo.cell? ⟨bo,oo + i,none⟩ = some (.int .i64 (t:Int)):=(hlow.cell (p:=⟨bo,oo + i,none⟩) hbo).trans (hco i t (by rw [← ht];exact List.getElem?_eq_getElem hio))
   obtain ⟨bt,ot,hat,hbt,hct⟩:=HC.out.2.2.1.resolve_left (fun e => by rw [e] at htt;simp at htt)
   subst hat
   obtain ⟨t0,t1,t2,ta,tc,t3,htr⟩:=tskSta wI wo bt _ _ hlow hbt (hct t htt)
   rw [show tks[t] = d by rw [List.getElem?_eq_getElem htt] at hd;injection hd] at t0 t1 t2 t3 htr
   rw [hk1] at t0
   have x5:=(hst.box 5).trans hst.c5
   have x2:=(hst.box 2).trans hst.c2
   have hbl:=hbv _ (List.getElem_mem htV)
   have HS:=hid hst
   have HB:=hid hbv
   have HTR:=hid htr
   have i0:(0:Int) ≤ (i:Int):=by omega
   have i1:(i:Int) < (order.length:Int):=by omega
   have j0:(0:Int) ≤ (t:Int):=by omega
   have j1:(t:Int) < (tks.length:Int):=by omega
   have j2:(t:Int) < ((V i).length:Int):=by omega
   by_cases hdt:dateV d.per d.ph (((V i)[t]).length:Int) = date
   ·have hnk:nds[d.node.toNat]? = some nds[k]:=by rw [show d.node.toNat = k by omega];exact List.getElem?_eq_getElem hk2
    have hyes:=turn_yes (ni:=ni) (inl:=inl) (vals:=V i) (date:=date) hd hnk (by rw [hgd];exact hdt)
    rw [hgd] at hyes
    have hJ:=fun (W':World) (hb:Below wo.heap.size wo W') => job_any (w:=W') ((hst.below hb).mnr HC.out.1) (by have:=HP.out.1.len;omega) ((hst.below hb).mnn hn HC.out.2.1 HP.out.2.2.1) k hk2 d.per d.ph d.args ta tc ha1 (htr.below argSta hb) (fun a ha => by have:=ha2 a ha;rw [hvl];exact this) (((V i)[t]).length:Int) (argsV_b HP.out.2.2.2.1 hbv HP.out.2.1 hdm _)
    obtain ⟨x,hx⟩:∃ x,jobV ni inl (V i) nds[k] d.args (((V i)[t]).length:Int) = x:=⟨_,rfl⟩
    rw [hx] at hyes hJ
    have hxb:B64 x:=by rw [← hx];exact jobV_b HP.out.2.2.2.1 hbv HP.out.2.1 hdm (HP.out.2.2.1 _ (List.getElem_mem hk2)) _
    have HJ:=hid hJ
    have HDA:=hid (fun W => date_any d.per d.ph (((V i)[t]).length:Int) W)
    rw [hdt] at HDA
    rw [hyes] at hst1
    have HW1:=hid (And.intro hst1 (And.intro hvl hxb))
    have HOW:=hid how
    have HVT:=hid hv
    obtain ⟨ln,hln⟩:∃ ln,((V i)[t]).length = ln:=⟨_,rfl⟩
    have HLN:=hid hln
    rw [hln] at hcell HDA HJ HOW HVT hbl
    obtain ⟨l1,l2,l3,l4,l5⟩:=hst.lo
    have hsz:=hst.but.size
    have hfz:wo.frozen? ⟨vb,t,none⟩ = false:=by simp [World.frozen?,hst.row]
    clear hst hbv hvl hst1 ht hd hdm ha1 ha2 hv how hgd hlow hco hct htr hdt hln hk1 hnk hyes hJ hx hxb
    go_upto_region 5 with (go_at_call 20;refine (HDA.out _).mono ?_;rintro y w2 ⟨rfl,hb2⟩;have HB2:=hid hb2;clear hb2)
    obtain ⟨i0',hi0',hi1',hi2',hi3'⟩:=info_parts infoI64
    have HI:=hid (And.intro hi0' (And.intro hi1' (And.intro hi2' hi3')))
    clear hi0' hi1' hi2' hi3'
    have hz2:=HB2.out.size
    rw [block_then2]
    go_cut [] (fun W => Hid (∃ w5 w4 gg cap4,W = w4.setCell ⟨vb,t,none⟩ (.slice (some ⟨gg,0,none⟩) (ln + 1) cap4) ∧ Below wo.heap.size wo w5 ∧ w4.ownsRow W0.heap.size 2 1 (.slice (some ⟨gg,0,none⟩) (ln + 1) cap4) (ln + 1) (ints (V i)[t] ++ [.int .i64 x]) ∧ But (fun k => (Value.slice a ln c).ownBlock = some k) w5 w4 ∧ ((Value.slice a ln c).ownBlock = some gg ∨ w5.heap.size ≤ gg)))
    case first =>
     clear HV HC HP HS HB HTR HW1 HVT HDA
     have HBD:=hid (show Below wo.heap.size wo w2.drew from HB2.out.drew)
     have HCELL:=hid hcell
     have HFZ:=hid hfz
     have HK0:=hid (show TkS mb bt ot t vb (V i).length cv tks.length ct (k:Int) d.per d.ph ta d.args.length tc wo from ⟨x5,x2,t0,t1,t2,t3⟩)
     have hbt2:bt < wo.heap.size:=by omega
     have KA:=hid (show TkS mb bt ot t vb (V i).length cv tks.length ct (k:Int) d.per d.ph ta d.args.length tc w2.drew from tkS_keep HK0.out (HBD.out.block mb oq) (HBD.out.block bt hbt2))
     have dv:w2.drew.cell? ⟨vb,t,none⟩ = some (.slice a ln c):=(HBD.out.cell (p:=⟨vb,t,none⟩) (by show vb < _;omega)).trans hcell
     clear x5 x2 hcell hfz t0 t1 t2 t3 o1
     refine wp_region_held_drew (S:=TkS mb bt ot t vb (V i).length cv tks.length ct (k:Int) d.per d.ph ta d.args.length tc) (by kernel_rfl) (by first | with_reducible exact KA.out | with_reducible exact KB.out | with_reducible exact KBA.out _ | with_reducible exact KC.out | with_reducible exact KD.out _) (fun hHeld => ?_)
     refine tk 0 (oi:=?a1) (v:=?b1) ?c1 ?e1 ?f1 hHeld ?r1 ?d1
     case c1=>(simp only [tA,tB,tC];rfl)
     case d1=>exact fun _ _ _ h=>h
     case e1=>rfl
     case f1=>(intro w hSw;(obtain ⟨s0,s1,s2,s3,s4,s5⟩:=hSw);go_simp;try with_reducible rfl)
     try simp only [Act.put,sA,sB,sC]
     refine tk 1 (oi:=?a2) (v:=?b2) ?c2 ?e2 ?f2 hHeld ?r2 ?d2
     case c2=>(simp only [tA,tB,tC];rfl)
     case d2=>exact fun _ _ _ h=>h
     case e2=>rfl
     case f2=>(intro w hSw;(obtain ⟨s0,s1,s2,s3,s4,s5⟩:=hSw);go_simp;try with_reducible rfl)
     try simp only [Act.put,sA,sB,sC]
     refine tk 2 (oi:=?a3) (v:=?b3) ?c3 ?e3 ?f3 hHeld ?r3 ?d3
     case c3=>(simp only [tA,tB,tC];rfl)
     case d3=>exact fun _ _ _ h=>h
     case e3=>rfl
     case f3=>(intro w hSw;(obtain ⟨s0,s1,s2,s3,s4,s5⟩:=hSw);go_simp;try with_reducible rfl)
     try simp only [Act.put,sA,sB,sC]
     refine tk 3 (oi:=?a4) (v:=?b4) ?c4 ?e4 ?f4 hHeld ?r4 ?d4
     case c4=>(simp only [tA,tB,tC];rfl)
     case d4=>exact fun _ _ _ h=>h
     case e4=>rfl
     case f4=>(intro w hSw;(obtain ⟨s0,s1,s2,s3,s4,s5⟩:=hSw);go_simp;try with_reducible rfl)
     try simp only [Act.put,sA,sB,sC]
     refine tk 4 (oi:=?a5) (v:=?b5) ?c5 ?e5 ?f5 hHeld ?r5 ?d5
     case c5=>(simp only [tA,tB,tC];rfl)
     case d5=>exact fun _ _ _ h=>h
     case e5=>rfl
     case f5=>(intro w hSw;(obtain ⟨s0,s1,s2,s3,s4,s5⟩:=hSw);go_simp;try with_reducible rfl)
     try simp only [Act.put,sA,sB,sC]
     refine tk 5 (oi:=?a6) (v:=?b6) ?c6 ?e6 ?f6 hHeld ?r6 ?d6
     case c6=>(simp only [tA,tB,tC];rfl)
     case d6=>exact fun _ _ _ h=>h
     case e6=>rfl
     case f6=>(intro w hSw;(obtain ⟨s0,s1,s2,s3,s4,s5⟩:=hSw);go_simp;try with_reducible rfl)
     try simp only [Act.put,sA,sB,sC]
     refine tk 6 (oi:=?a7) (v:=?b7) ?c7 ?e7 ?f7 hHeld ?r7 ?d7
     case c7=>(simp only [tA,tB,tC];rfl)
     case d7=>exact fun _ _ _ h=>h
     case e7=>rfl
     case f7=>(intro w hSw;(obtain ⟨s0,s1,s2,s3,s4,s5⟩:=hSw);go_simp;try with_reducible rfl)
     try simp only [Act.put,sA,sB,sC]
     refine tk 7 (oi:=?a8) (v:=?b8) ?c8 ?e8 ?f8 hHeld ?r8 ?d8
     case c8=>(simp only [tA,tB,tC];rfl)
     case d8=>exact fun _ _ _ h=>h
     case e8=>rfl
     case f8=>(intro w hSw;(obtain ⟨s0,s1,s2,s3,s4,s5⟩:=hSw);go_simp;try with_reducible rfl)
     try simp only [Act.put,sA,sB,sC]
     refine tk 8 (oi:=?a9) (v:=?b9) ?c9 ?e9 ?f9 hHeld ?r9 ?d9
     case c9=>(simp only [tA,tB,tC];rfl)
     case d9=>exact fun _ _ _ h=>h
     case e9=>rfl
     case f9=>(intro w hSw;(obtain ⟨s0,s1,s2,s3,s4,s5⟩:=hSw);go_simp;try with_reducible rfl)
     try simp only [Act.put,sA,sB,sC]
     refine tk 9 (oi:=?a10) (v:=?b10) ?c10 ?e10 ?f10 hHeld ?r10 ?d10
     case c10=>(simp only [tA,tB,tC];rfl)
     case d10=>exact fun _ _ _ h=>h
     case e10=>rfl
     case f10=>(intro w hSw;(obtain ⟨s0,s1,s2,s3,s4,s5⟩:=hSw);go_simp;try with_reducible rfl)
     try simp only [Act.put,sA,sB,sC]
     refine tk 10 (oi:=?a11) (v:=?b11) ?c11 ?e11 ?f11 hHeld ?r11 ?d11
     case c11=>(simp only [tA,tB,tC];rfl)
     case d11=>exact fun _ _ _ h=>h
     case e11=>rfl
     case f11=>(intro w hSw;(obtain ⟨s0,s1,s2,s3,s4,s5⟩:=hSw);go_simp;try with_reducible rfl)
     try simp only [Act.put,sA,sB,sC]
     refine tk 12 (oi:=?a12) (v:=?b12) ?c12 ?e12 ?f12 hHeld ?r12 ?d12
     case c12=>(simp only [tA,tB,tC];rfl)
     case d12=>exact fun _ _ _ h=>h
     case e12=>rfl
     case f12=>(intro w hSw;(obtain ⟨s0,s1,s2,s3,s4,s5⟩:=hSw);go_simp;try with_reducible rfl)
     try simp only [Act.put,sA,sB,sC]
     refine tk 13 (oi:=?a13) (v:=?b13) ?c13 ?e13 ?f13 hHeld ?r13 ?d13
     case c13=>(simp only [tA,tB,tC];rfl)
     case d13=>exact fun _ _ _ h=>h
     case e13=>rfl
     case f13=>(intro w hSw;(obtain ⟨s0,s1,s2,s3,s4,s5⟩:=hSw);go_simp;try with_reducible rfl)
     try simp only [Act.put,sA,sB,sC]
     refine tk 14 (oi:=?a14) (v:=?b14) ?c14 ?e14 ?f14 hHeld ?r14 ?d14
     case c14=>(simp only [tA,tB,tC];rfl)
     case d14=>exact fun _ _ _ h=>h
     case e14=>rfl
     case f14=>(intro w hSw;(obtain ⟨s0,s1,s2,s3,s4,s5⟩:=hSw);go_simp;try with_reducible rfl)
     try simp only [Act.put,sA,sB,sC]
     refine tk 15 (oi:=?a15) (v:=?b15) ?c15 ?e15 ?f15 hHeld ?r15 ?d15
     case c15=>(simp only [tA,tB,tC];rfl)
     case d15=>exact fun _ _ _ h=>h
     case e15=>rfl
     case f15=>(intro w hSw;(obtain ⟨s0,s1,s2,s3,s4,s5⟩:=hSw);go_simp;try with_reducible rfl)
     try simp only [Act.put,sA,sB,sC]
     refine tk 16 (oi:=?a16) (v:=?b16) ?c16 ?e16 ?f16 hHeld ?r16 ?d16
     case c16=>(simp only [tA,tB,tC];rfl)
     case d16=>exact fun _ _ _ h=>h
     case e16=>rfl
     case f16=>(intro w hSw;(obtain ⟨s0,s1,s2,s3,s4,s5⟩:=hSw);go_simp;try with_reducible rfl)
     try simp only [Act.put,sA,sB,sC]
     refine tk 17 (oi:=?a17) (v:=?b17) ?c17 ?e17 ?f17 hHeld ?r17 ?d17
     case c17=>(simp only [tA,tB,tC];rfl)
     case d17=>exact fun _ _ _ h=>h
     case e17=>rfl
     case f17=>(intro w hSw;(obtain ⟨s0,s1,s2,s3,s4,s5⟩:=hSw);go_simp;try with_reducible rfl)
     try simp only [Act.put,sA,sB,sC]
     refine tk 18 (oi:=?a18) (v:=?b18) ?c18 ?e18 ?f18 hHeld ?r18 ?d18
     case c18=>(simp only [tA,tB,tC];rfl)
     case d18=>exact fun _ _ _ h=>h
     case e18=>rfl
     case f18=>(intro w hSw;(obtain ⟨s0,s1,s2,s3,s4,s5⟩:=hSw);go_simp;try with_reducible rfl)
     try simp only [Act.put,sA,sB,sC]
     refine tk 19 (oi:=?a19) (v:=?b19) ?c19 ?e19 ?f19 hHeld ?r19 ?d19
     case c19=>(simp only [tA,tB,tC];rfl)
     case d19=>exact fun _ _ _ h=>h
     case e19=>rfl
     case f19=>(intro w hSw;(obtain ⟨s0,s1,s2,s3,s4,s5⟩:=hSw);go_simp;try with_reducible rfl)
     try simp only [Act.put,sA,sB,sC]
     refine tk 20 (oi:=?a20) (v:=?b20) ?c20 ?e20 ?f20 hHeld ?r20 ?d20
     case c20=>(simp only [tA,tB,tC];rfl)
     case d20=>exact fun _ _ _ h=>h
     case e20=>rfl
     case f20=>(intro w hSw;(obtain ⟨s0,s1,s2,s3,s4,s5⟩:=hSw);go_simp;try with_reducible rfl)
     try simp only [Act.put,sA,sB,sC]
     refine tk 21 (oi:=?a21) (v:=?b21) ?c21 ?e21 ?f21 hHeld ?r21 ?d21
     case c21=>(simp only [tA,tB,tC];rfl)
     case d21=>exact fun _ _ _ h=>h
     case e21=>rfl
     case f21=>(intro w hSw;(obtain ⟨s0,s1,s2,s3,s4,s5⟩:=hSw);go_simp;try with_reducible rfl)
     try simp only [Act.put,sA,sB,sC]
     refine wpAnyH_ready (rs:=[11,22]) (by kernel_rfl) (by simp) ?_
     refine AllReadyH.cons (o:=?o36) ?hi36 (fun K hK => ?_) (AllReadyH.cons (o:=?p36) ?hj36 (fun K hK => ?_) AllReadyH.nil)
     case hi36 => (simp only [tA,tB,tC];rfl)
     case hj36 => (simp only [tA,tB,tC];rfl)
     ·go_simp
      refine hK.out _ _ (by first | with_reducible exact KA.out | with_reducible exact KB.out | with_reducible exact KBA.out _ | with_reducible exact KC.out | with_reducible exact KD.out _) (fun hHeld => ?_)
      clear hK K
      try simp only [Act.put,sA,sB,sC]
      refine wpAnyH_ready (rs:=[22]) (by kernel_rfl) (by simp) ?_
      refine AllReadyH.cons (o:=?o22) ?hi22 (fun K hK => ?_) AllReadyH.nil
      case hi22 => (simp only [tA,tB,tC];rfl)
      (go_simp;go_at_call 104;refine (HJ.out _ HBD.out).mono ?_;rintro y w5 ⟨rfl,hb5⟩;have hb6:Below wo.heap.size wo w5:=HBD.out.trans (hb5.mono HBD.out.size);have HB5:=hid hb6;have hz5:=hb6.size;have v5:=(hb6.cell (p:=⟨vb,t,none⟩) (by show vb < wo.heap.size;omega)).trans HCELL.out;have f5:w5.frozen? ⟨vb,t,none⟩ = false:=(World.frozen?_of_block (a:=⟨vb,t,none⟩) (hb6.block vb oq)).trans HFZ.out;have va5:=fun (o:Obj) => (World.cell?_of_block (w:=w5) (w':=w5.alloc o) (a:=⟨vb,t,none⟩) (Below.heap_alloc _ _ _ (by show vb < w5.heap.size;omega))).trans v5;have KB:=hid (tkS_keep HK0.out (hb6.block mb oq) (hb6.block bt oq));have KBA:=hid (fun (o:Obj) => tkS_keep KB.out (Below.heap_alloc w5 o mb oq) (Below.heap_alloc w5 o bt oq));clear hb5 hb6)
      refine hK.out _ _ (by first | with_reducible exact KA.out | with_reducible exact KB.out | with_reducible exact KBA.out _ | with_reducible exact KC.out | with_reducible exact KD.out _) (fun hHeld => ?_)
      clear hK K
      try simp only [Act.put,sA,sB,sC]
      refine wpAnyH_ready (rs:=[23]) (by kernel_rfl) (by simp) ?_
      refine AllReadyH.cons (o:=?o23) ?hi23 (fun K hK => ?_) AllReadyH.nil
      case hi23 => (simp only [tA,tB,tC];rfl)
      go_simp
      refine hK.out _ _ (by first | with_reducible exact KA.out | with_reducible exact KB.out | with_reducible exact KBA.out _ | with_reducible exact KC.out | with_reducible exact KD.out _) (fun hHeld => ?_)
      clear hK K
      try simp only [Act.put,sA,sB,sC]
      refine wpAnyH_ready (rs:=[24]) (by kernel_rfl) (by simp) ?_
      refine AllReadyH.cons (o:=?o24) ?hi24 (fun K hK => ?_) AllReadyH.nil
      case hi24 => (simp only [tA,tB,tC];rfl)
      (refine step_append_lies _ (by rfl) _ _ _ (by rfl) W0.heap.size 2 i0' _ 1 8 Tryz.underlying42 HI.out.1 HI.out.2.1 HI.out.2.2.1 HI.out.2.2.2 rfl oq (.slice a ln c) ln (ints (V i)[t]) (by rfl) (own_below HOW.out (HB5.out.alloc HB5.out.size _)) ⟨w5.heap.size,0,none⟩ 1 1 [.int .i64 x] (by rfl) (by rfl) (World.news_of_block (heap_alloc_new _ _)) (by simp [Value.oneCell']) oq (by unfold maxLen;omega) oq (by simp;omega) (w5.heap.size + 1) (by simp) ?_;intro gg cap4 w4 hown4 hgrow4 hat4 hlt4;have hbt4:But (fun k => (Value.slice a ln c).ownBlock = some k) w5 w4:=(But.of_below ((Below.refl _ _).alloc (Nat.le_refl _) _)).then (But.of_grown hgrow4) (fun i _ e => e);have hnr:¬ (Value.slice a ln c).ownBlock = some vb:=(fun e => by have:=own_ge' HOW.out vb e;omega);have f4:=(World.frozen?_of_block (a:=⟨vb,t,none⟩) (hbt4.block vb oq hnr)).trans f5;have c4:=(World.cell?_of_block (a:=⟨vb,t,none⟩) (hbt4.block vb oq hnr)).trans v5;have KC:=hid (tkS_keep KB.out (hbt4.block mb oq (fun e => by have:=own_ge' HOW.out mb e;omega)) (hbt4.block bt oq (fun e => by have:=own_ge' HOW.out bt e;omega)));have KD:=hid (fun (u:Value) => tkS_keep KC.out (Below.heap_setCell w4 ⟨vb,t,none⟩ u mb (by show mb ≠ vb;omega)) (Below.heap_setCell w4 ⟨vb,t,none⟩ u bt (by show bt ≠ vb;omega)));have HO4:=hid hown4;have HBT4:=hid hbt4;have HG4:=hid (show (Value.slice a ln c).ownBlock = some gg ∨ w5.heap.size ≤ gg from hat4.elim .inl (fun e => .inr oq));clear hown4 hgrow4 hat4 hbt4 hnr)
      refine hK.out _ _ (by first | with_reducible exact KA.out | with_reducible exact KB.out | with_reducible exact KBA.out _ | with_reducible exact KC.out | with_reducible exact KD.out _) (fun hHeld => ?_)
      clear hK K
      try simp only [Act.put,sA,sB,sC]
      refine tk 25 (oi:=?a25) (v:=?b25) ?c25 ?e25 ?f25 hHeld ?r25 ?d25
      case c25=>(simp only [tA,tB,tC];rfl)
      case d25=>exact fun _ _ _ h=>h
      case e25=>rfl
      case f25=>(intro w hSw;(obtain ⟨s0,s1,s2,s3,s4,s5⟩:=hSw);go_simp;try with_reducible rfl)
      try simp only [Act.put,sA,sB,sC]
      refine wpAnyH_ready (rs:=[26]) (by kernel_rfl) (by simp) ?_
      refine AllReadyH.cons (o:=?o26) ?hi26 (fun K hK => ?_) AllReadyH.nil
      case hi26 => (simp only [tA,tB,tC];rfl)
      go_simp
      refine hK.out _ _ (by first | with_reducible exact KA.out | with_reducible exact KB.out | with_reducible exact KBA.out _ | with_reducible exact KC.out | with_reducible exact KD.out _) (fun hHeld => ?_)
      clear hK K
      try simp only [Act.put,sA,sB,sC]
      refine wpAnyH_done (by kernel_rfl) ?_ _
      (go_wp2_with fail;go_meet;exact hid ⟨w5,w4,gg,cap4,rfl,HB5.out,HO4.out,HBT4.out,HG4.out⟩)
     ·(go_simp;go_at_call 104;refine (HJ.out _ HBD.out).mono ?_;rintro y w5 ⟨rfl,hb5⟩;have hb6:Below wo.heap.size wo w5:=HBD.out.trans (hb5.mono HBD.out.size);have HB5:=hid hb6;have hz5:=hb6.size;have v5:=(hb6.cell (p:=⟨vb,t,none⟩) (by show vb < wo.heap.size;omega)).trans HCELL.out;have f5:w5.frozen? ⟨vb,t,none⟩ = false:=(World.frozen?_of_block (a:=⟨vb,t,none⟩) (hb6.block vb oq)).trans HFZ.out;have va5:=fun (o:Obj) => (World.cell?_of_block (w:=w5) (w':=w5.alloc o) (a:=⟨vb,t,none⟩) (Below.heap_alloc _ _ _ (by show vb < w5.heap.size;omega))).trans v5;have KB:=hid (tkS_keep HK0.out (hb6.block mb oq) (hb6.block bt oq));have KBA:=hid (fun (o:Obj) => tkS_keep KB.out (Below.heap_alloc w5 o mb oq) (Below.heap_alloc w5 o bt oq));clear hb5 hb6)
      refine hK.out _ _ (by first | with_reducible exact KA.out | with_reducible exact KB.out | with_reducible exact KBA.out _ | with_reducible exact KC.out | with_reducible exact KD.out _) (fun hHeld => ?_)
      clear hK K
      try simp only [Act.put,sA,sB,sC]
      refine wpAnyH_ready (rs:=[11,23]) (by kernel_rfl) (by simp) ?_
      refine AllReadyH.cons (o:=?o35) ?hi35 (fun K hK => ?_) (AllReadyH.cons (o:=?p35) ?hj35 (fun K hK => ?_) AllReadyH.nil)
      case hi35 => (simp only [tA,tB,tC];rfl)
      case hj35 => (simp only [tA,tB,tC];rfl)
      ·go_simp
       refine hK.out _ _ (by first | with_reducible exact KA.out | with_reducible exact KB.out | with_reducible exact KBA.out _ | with_reducible exact KC.out | with_reducible exact KD.out _) (fun hHeld => ?_)
       clear hK K
       try simp only [Act.put,sA,sB,sC]
       refine wpAnyH_ready (rs:=[23]) (by kernel_rfl) (by simp) ?_
       refine AllReadyH.cons (o:=?o27) ?hi27 (fun K hK => ?_) AllReadyH.nil
       case hi27 => (simp only [tA,tB,tC];rfl)
       go_simp
       refine hK.out _ _ (by first | with_reducible exact KA.out | with_reducible exact KB.out | with_reducible exact KBA.out _ | with_reducible exact KC.out | with_reducible exact KD.out _) (fun hHeld => ?_)
       clear hK K
       try simp only [Act.put,sA,sB,sC]
       refine wpAnyH_ready (rs:=[24]) (by kernel_rfl) (by simp) ?_
       refine AllReadyH.cons (o:=?o28) ?hi28 (fun K hK => ?_) AllReadyH.nil
       case hi28 => (simp only [tA,tB,tC];rfl)
       (refine step_append_lies _ (by rfl) _ _ _ (by rfl) W0.heap.size 2 i0' _ 1 8 Tryz.underlying42 HI.out.1 HI.out.2.1 HI.out.2.2.1 HI.out.2.2.2 rfl oq (.slice a ln c) ln (ints (V i)[t]) (by rfl) (own_below HOW.out (HB5.out.alloc HB5.out.size _)) ⟨w5.heap.size,0,none⟩ 1 1 [.int .i64 x] (by rfl) (by rfl) (World.news_of_block (heap_alloc_new _ _)) (by simp [Value.oneCell']) oq (by unfold maxLen;omega) oq (by simp;omega) (w5.heap.size + 1) (by simp) ?_;intro gg cap4 w4 hown4 hgrow4 hat4 hlt4;have hbt4:But (fun k => (Value.slice a ln c).ownBlock = some k) w5 w4:=(But.of_below ((Below.refl _ _).alloc (Nat.le_refl _) _)).then (But.of_grown hgrow4) (fun i _ e => e);have hnr:¬ (Value.slice a ln c).ownBlock = some vb:=(fun e => by have:=own_ge' HOW.out vb e;omega);have f4:=(World.frozen?_of_block (a:=⟨vb,t,none⟩) (hbt4.block vb oq hnr)).trans f5;have c4:=(World.cell?_of_block (a:=⟨vb,t,none⟩) (hbt4.block vb oq hnr)).trans v5;have KC:=hid (tkS_keep KB.out (hbt4.block mb oq (fun e => by have:=own_ge' HOW.out mb e;omega)) (hbt4.block bt oq (fun e => by have:=own_ge' HOW.out bt e;omega)));have KD:=hid (fun (u:Value) => tkS_keep KC.out (Below.heap_setCell w4 ⟨vb,t,none⟩ u mb (by show mb ≠ vb;omega)) (Below.heap_setCell w4 ⟨vb,t,none⟩ u bt (by show bt ≠ vb;omega)));have HO4:=hid hown4;have HBT4:=hid hbt4;have HG4:=hid (show (Value.slice a ln c).ownBlock = some gg ∨ w5.heap.size ≤ gg from hat4.elim .inl (fun e => .inr oq));clear hown4 hgrow4 hat4 hbt4 hnr)
       refine hK.out _ _ (by first | with_reducible exact KA.out | with_reducible exact KB.out | with_reducible exact KBA.out _ | with_reducible exact KC.out | with_reducible exact KD.out _) (fun hHeld => ?_)
       clear hK K
       try simp only [Act.put,sA,sB,sC]
       refine tk 25 (oi:=?a29) (v:=?b29) ?c29 ?e29 ?f29 hHeld ?r29 ?d29
       case c29=>(simp only [tA,tB,tC];rfl)
       case d29=>exact fun _ _ _ h=>h
       case e29=>rfl
       case f29=>(intro w hSw;(obtain ⟨s0,s1,s2,s3,s4,s5⟩:=hSw);go_simp;try with_reducible rfl)
       try simp only [Act.put,sA,sB,sC]
       refine wpAnyH_ready (rs:=[26]) (by kernel_rfl) (by simp) ?_
       refine AllReadyH.cons (o:=?o30) ?hi30 (fun K hK => ?_) AllReadyH.nil
       case hi30 => (simp only [tA,tB,tC];rfl)
       go_simp
       refine hK.out _ _ (by first | with_reducible exact KA.out | with_reducible exact KB.out | with_reducible exact KBA.out _ | with_reducible exact KC.out | with_reducible exact KD.out _) (fun hHeld => ?_)
       clear hK K
       try simp only [Act.put,sA,sB,sC]
       refine wpAnyH_done (by kernel_rfl) ?_ _
       (go_wp2_with fail;go_meet;exact hid ⟨w5,w4,gg,cap4,rfl,HB5.out,HO4.out,HBT4.out,HG4.out⟩)
      ·go_simp
       refine hK.out _ _ (by first | with_reducible exact KA.out | with_reducible exact KB.out | with_reducible exact KBA.out _ | with_reducible exact KC.out | with_reducible exact KD.out _) (fun hHeld => ?_)
       clear hK K
       try simp only [Act.put,sA,sB,sC]
       refine wpAnyH_ready (rs:=[11]) (by kernel_rfl) (by simp) ?_
       refine AllReadyH.cons (o:=?o31) ?hi31 (fun K hK => ?_) AllReadyH.nil
       case hi31 => (simp only [tA,tB,tC];rfl)
       go_simp
       refine hK.out _ _ (by first | with_reducible exact KA.out | with_reducible exact KB.out | with_reducible exact KBA.out _ | with_reducible exact KC.out | with_reducible exact KD.out _) (fun hHeld => ?_)
       clear hK K
       try simp only [Act.put,sA,sB,sC]
       refine wpAnyH_ready (rs:=[24]) (by kernel_rfl) (by simp) ?_
       refine AllReadyH.cons (o:=?o32) ?hi32 (fun K hK => ?_) AllReadyH.nil
       case hi32 => (simp only [tA,tB,tC];rfl)
       (refine step_append_lies _ (by rfl) _ _ _ (by rfl) W0.heap.size 2 i0' _ 1 8 Tryz.underlying42 HI.out.1 HI.out.2.1 HI.out.2.2.1 HI.out.2.2.2 rfl oq (.slice a ln c) ln (ints (V i)[t]) (by rfl) (own_below HOW.out (HB5.out.alloc HB5.out.size _)) ⟨w5.heap.size,0,none⟩ 1 1 [.int .i64 x] (by rfl) (by rfl) (World.news_of_block (heap_alloc_new _ _)) (by simp [Value.oneCell']) oq (by unfold maxLen;omega) oq (by simp;omega) (w5.heap.size + 1) (by simp) ?_;intro gg cap4 w4 hown4 hgrow4 hat4 hlt4;have hbt4:But (fun k => (Value.slice a ln c).ownBlock = some k) w5 w4:=(But.of_below ((Below.refl _ _).alloc (Nat.le_refl _) _)).then (But.of_grown hgrow4) (fun i _ e => e);have hnr:¬ (Value.slice a ln c).ownBlock = some vb:=(fun e => by have:=own_ge' HOW.out vb e;omega);have f4:=(World.frozen?_of_block (a:=⟨vb,t,none⟩) (hbt4.block vb oq hnr)).trans f5;have c4:=(World.cell?_of_block (a:=⟨vb,t,none⟩) (hbt4.block vb oq hnr)).trans v5;have KC:=hid (tkS_keep KB.out (hbt4.block mb oq (fun e => by have:=own_ge' HOW.out mb e;omega)) (hbt4.block bt oq (fun e => by have:=own_ge' HOW.out bt e;omega)));have KD:=hid (fun (u:Value) => tkS_keep KC.out (Below.heap_setCell w4 ⟨vb,t,none⟩ u mb (by show mb ≠ vb;omega)) (Below.heap_setCell w4 ⟨vb,t,none⟩ u bt (by show bt ≠ vb;omega)));have HO4:=hid hown4;have HBT4:=hid hbt4;have HG4:=hid (show (Value.slice a ln c).ownBlock = some gg ∨ w5.heap.size ≤ gg from hat4.elim .inl (fun e => .inr oq));clear hown4 hgrow4 hat4 hbt4 hnr)
       refine hK.out _ _ (by first | with_reducible exact KA.out | with_reducible exact KB.out | with_reducible exact KBA.out _ | with_reducible exact KC.out | with_reducible exact KD.out _) (fun hHeld => ?_)
       clear hK K
       try simp only [Act.put,sA,sB,sC]
       refine tk 25 (oi:=?a33) (v:=?b33) ?c33 ?e33 ?f33 hHeld ?r33 ?d33
       case c33=>(simp only [tA,tB,tC];rfl)
       case d33=>exact fun _ _ _ h=>h
       case e33=>rfl
       case f33=>(intro w hSw;(obtain ⟨s0,s1,s2,s3,s4,s5⟩:=hSw);go_simp;try with_reducible rfl)
       try simp only [Act.put,sA,sB,sC]
       refine wpAnyH_ready (rs:=[26]) (by kernel_rfl) (by simp) ?_
       refine AllReadyH.cons (o:=?o34) ?hi34 (fun K hK => ?_) AllReadyH.nil
       case hi34 => (simp only [tA,tB,tC];rfl)
       go_simp
       refine hK.out _ _ (by first | with_reducible exact KA.out | with_reducible exact KB.out | with_reducible exact KBA.out _ | with_reducible exact KC.out | with_reducible exact KD.out _) (fun hHeld => ?_)
       clear hK K
       try simp only [Act.put,sA,sB,sC]
       refine wpAnyH_done (by kernel_rfl) ?_ _
       (go_wp2_with fail;go_meet;exact hid ⟨w5,w4,gg,cap4,rfl,HB5.out,HO4.out,HBT4.out,HG4.out⟩)
    case rest =>
     obtain ⟨W,rfl⟩:∃ W:World,W = wc:=⟨_,rfl⟩
     obtain ⟨w5,w4,gg,cap4,hwc,hb5,ho4,hbt4,hg4⟩:=hcut.out
     clear hcut HI HB2 HJ HDA HC HTR
     have HNX:=hid (show ∃ vs'',StM wI W0 W mb vb ai an (some ⟨bt,ot,none⟩) ni ci cn nn tks ct ain inl cin cv vs'' (V (i + 1)) from by
      have hst:=HS.out
      have hown:=HOW.out
      have hvt:=HVT.out
      have hnr:¬ (Value.slice a ln c).ownBlock = some vb:=fun e => by have:=own_ge' hown vb e;omega
      have hz5:=hb5.size
      have hs4:=hbt4.size
      have hg:But (fun k => (Value.slice a ln c).ownBlock = some k ∨ k < W0.heap.size) wo (w4.setCell ⟨vb,t,none⟩ (.slice (some ⟨gg,0,none⟩) (ln + 1) cap4)) :=
       ((But.of_below hb5).trans (hbt4.imp (fun i _ e => .inl e))).trans (But.set (.inr l4) _)
      have hg2:But (fun k => (Value.slice a ln c).ownBlock = some k ∨ k = vb) wo (w4.setCell ⟨vb,t,none⟩ (.slice (some ⟨gg,0,none⟩) (ln + 1) cap4)) :=
       ((But.of_below hb5).trans (hbt4.imp (fun i _ e => .inl e))).trans (But.set (.inr rfl) _)
      have hrow4:w4.heap[vb]? = some (.cells vs'.toArray 42 (0,0)):=(hbt4.block vb oq hnr).trans ((hb5.block vb oq).trans hst.row)
      have hlx:(ints ((V i)[t] ++ [x])).length = ln + 1:=by rw [ints_len,List.length_append,HLN.out];rfl
      have hfam:=hst.fam.put hvt hg (v':=.slice (some ⟨gg,0,none⟩) (ln + 1) cap4) (xs':=ints ((V i)[t] ++ [x])) (by rw [hlx,← ints_app];exact own_set ho4 oq _) (fun k hk => by
       have hk:gg = k:=by injection hk
       subst hk
       exact hg4.imp id (fun h => by omega))
      refine ⟨vs'.set t (.slice (some ⟨gg,0,none⟩) (ln + 1) cap4),?_⟩
      rw [HW1.out.1,hwc]
      refine ⟨hst.old,hst.but.then hg2 (fun k hk h => ?_),⟨l1,l2,l3,l4,l5⟩,hst.c0,hst.c1,hst.c2,hst.c4,by rw [List.length_set];exact hst.c5,?_,by rw [List.map_set];exact hfam⟩
      ·rcases h with h | h
       ·have:=own_ge' hown k h;omega
       ·exact h
      ·have:=heap_setCell_same w4 vb t _ _ (.slice (some ⟨gg,0,none⟩) (ln + 1) cap4) hrow4
       rw [this,List.setIfInBounds_toArray])
     obtain ⟨vsn,hnx⟩:=HNX.out
     have HNS:=hid hnx
     clear hnx HNX hwc
     go_wp2
     refine ⟨hid ⟨i + 1,vsn,by rw [show ((i + 1:Nat):Int) = (i:Int) + 1 by omega],hio,?_,?_,?_⟩,?_⟩
     ·rw [HW1.out.1]
      have hgd2:(V i).getD t [] = (V i)[t]:=by simp [List.getD,htV]
      rw [← hgd2]
      exact HB.out.set t HW1.out.2.2
     ·rw [HW1.out.1,List.length_set]
      exact HW1.out.2.1
     ·exact HNS.out
     ·show order.length - ((i:Int) + 1).toNat < order.length - (i:Int).toNat
      omega
   ·have hno:=turn_no (ni:=ni) (inl:=inl) (nds:=nds) (vals:=V i) hd (by rw [hgd];exact hdt)
    rw [hno] at hst1
    obtain ⟨dv,hdv⟩:∃ dv,dateV d.per d.ph (((V i)[t]).length:Int) = dv:=⟨_,rfl⟩
    have HDA:=hid (fun W => date_any d.per d.ph (((V i)[t]).length:Int) W)
    rw [hdv] at hdt HDA
    have hne:(dv == date) = false:=beq_eq_false_iff_ne.2 hdt
    have HW1:=hid (And.intro hst1 (And.intro hvl hdv))
    obtain ⟨ln,hln⟩:∃ ln,((V i)[t]).length = ln:=⟨_,rfl⟩
    rw [hln] at hcell HDA
    clear hst hbv hvl hst1 ht hd hdm ha1 ha2 hv how hgd hlow hco hct htr hbl hno hdv hln hk1
    go_wp2_with (go_at_call 20;refine (HDA.out _).mono ?_;rintro y w2 ⟨rfl,hb2⟩;have HB2:=hid hb2;clear hb2)
    refine ⟨hid ⟨i + 1,vs',by rw [show ((i + 1:Nat):Int) = (i:Int) + 1 by omega],hio,?_,?_,?_⟩,?_⟩
    ·rw [HW1.out.1]
     exact fun l hl => ⟨by have:=(HB.out l hl).1;omega,(HB.out l hl).2⟩
    ·rw [HW1.out.1]
     exact HW1.out.2.1
    ·rw [HW1.out.1]
     exact HS.out.below HB2.out
    ·show order.length - ((i:Int) + 1).toNat < order.length - (i:Int).toNat
     omega
  ·obtain rfl:i = order.length:=by omega
   have HS:=hid hst
   clear hst hbv hvl
   go_wp2
   go_end0
   exact ⟨rfl,vs',HS.out⟩
end Go.Proofs.YtpjficjlfibibaaGreatDoor.syn
