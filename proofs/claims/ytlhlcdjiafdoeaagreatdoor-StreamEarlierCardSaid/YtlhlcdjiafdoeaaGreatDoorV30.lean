/- Parts of the proof. -/
import Derived.Test.YtlhlcdjiafdoeaaGreatDoorV29
set_option linter.all false
set_option maxRecDepth 100000
set_option maxHeartbeats 16000000
namespace Go.Proofs.YtlhlcdjiafdoeaaGreatDoor.syn
open Go.RowKit
theorem StM.below {wI W0 w w':World} {mb vb ni ci cn nn ct cin cv:Nat} {ai an aT ain:Option Addr} {tks:List TD} {inl vals:List (List Int)} {vs:List Value} (h:StM wI W0 w mb vb ai an aT ni ci cn nn tks ct ain inl cin cv vs vals) (hb:Below w.heap.size w w'):StM wI W0 w' mb vb ai an aT ni ci cn nn tks ct ain inl cin cv vs vals :=
 ⟨h.old,h.but.trans (But.of_below hb),h.lo,h.c0,h.c1,h.c2,h.c4,h.c5,(hb.block vb (Zb h.row)).trans h.row,h.fam.below hb⟩
theorem ZaK {ni:Nat} {inl vals:List (List Int)} {nds:List NE} {tks:List TD} {date:Int} {t:Nat} {d:TD} (hd:tks[t]?=some d) (h:¬Jg d.per d.ph ((vals.getD t []).length:Int)=date):Qh ni inl nds tks date vals t=vals:=by
 unfold Qh
 rw[hd]
 simp only
 split
 ·rfl
 rw[ZZ h]
theorem ed {ni:Nat} {inl vals:List (List Int)} {nds:List NE} {tks:List TD} {date:Int} {t:Nat} {d:TD} {nd:NE} (hd:tks[t]?=some d) (hn:nds[d.node.toNat]?=some nd) (h:Jg d.per d.ph ((vals.getD t []).length:Int)=date):Qh ni inl nds tks date vals t=vals.set t (vals.getD t []++[KQ ni inl vals nd d.args ((vals.getD t []).length:Int)]):=by
 unfold Qh
 rw[hd]
 simp only
 rw[hn]
 simp only
 rw[Z0 h]
def TkS (mb bt ot t vb nv cv nt ct:Nat) (k per ph:Int) (ta:Option Addr) (na tc:Nat) (w':World):Prop:=w'.cell? ⟨mb,5,none⟩=some (.slice (some ⟨vb,0,none⟩) nv cv)∧w'.cell? ⟨mb,2,none⟩=some (.slice (some ⟨bt,ot,none⟩) nt ct)∧w'.cell? ⟨bt,ot+t*4,none⟩=some (.int .i64 k)∧w'.cell? ⟨bt,ot+t*4+1,none⟩=some (.int .i64 per)∧w'.cell? ⟨bt,ot+t*4+2,none⟩=some (.int .i64 ph)∧w'.cell? ⟨bt,ot+t*4+3,none⟩=some (.slice ta na tc)
theorem XG {mb bt ot t vb nv cv nt ct:Nat} {k per ph:Int} {ta:Option Addr} {na tc:Nat} {w w':World} (h:TkS mb bt ot t vb nv cv nt ct k per ph ta na tc w) (h1:w'.heap[mb]?=w.heap[mb]?) (h2:w'.heap[bt]?=w.heap[bt]?):TkS mb bt ot t vb nv cv nt ct k per ph ta na tc w':=by
 obtain⟨s0,s1,s2,s3,s4,s5⟩:=h
 have c1:=fun o=>Zn (w:=w) (w':=w') (a:=⟨mb,o,none⟩) h1
 have c2:=fun o=>Zn (w:=w) (w':=w') (a:=⟨bt,o,none⟩) h2
 exact⟨(c1 _).trans s0,(c1 _).trans s1,(c2 _).trans s2,(c2 _).trans s3,(c2 _).trans s4,(c2 _).trans s5⟩
theorem zH (l:Nat) (K:Act→World→Prop) (Q:Exit→Act→World→Prop):Exit.inBlock l (Exit.then K Q)=Exit.then K (Exit.inBlock l (Exit.then K Q)):=by
 funext e a w
 cases e<;>rfl
theorem gP {wI W0 w:World} {mb vb ni ci cn nn ct cin cv:Nat} {ai an aT ain:Option Addr} {tks:List TD} {inl vals:List (List Int)} {vs:List Value} (h:StM wI W0 w mb vb ai an aT ni ci cn nn tks ct ain inl cin cv vs vals) (hin:Qj wI ain inl) {nds:List NE} (hn:nds.length=nn) (hr:Row NdE 10 wI nds an) (hok:∀n∈nds,n.ok) (htk:Row uO 4 wI tks aT) (hT:ZaU ni nds tks) (hN:jP tks) (hvl:vals.length=tks.length) {m' m:Nat} (hbi:Bv m' inl) (hbv:Bv m vals) (hm:m≤1000000000)
  (order:List Nat) (ao:Option Addr) (co:Nat) (hol:order.length≤1000) (hor:Jq wI (fun t:Nat=>Value.int .i64 (t:Int)) ao order) (hot:∀t∈order,t<tks.length) (date:Int) :
  Calls Tryz.prog 52 #[.pointer (some ⟨mb,0,none⟩),.slice ao order.length co,.int .i64 date] w fun y w'=>y=.returned (.tuple #[])∧∃vs',StM wI W0 w' mb vb ai an aT ni ci cn nn tks ct ain inl cin cv vs' (JY ni inl nds tks order date vals):=by
 have HST:=hid h
 have HC:=hid (Zh hin (Zh hr (Zh htk hor)))
 have HP:=hid (Zh hT (Zh hN (Zh hok (Zh hbi hot))))
 have HBV:=hid (Zh hbv hvl)
 obtain⟨V,hV⟩:∃V:Nat→List (List Int),V=fun i=>(order.take i).foldl (Qh ni inl nds tks date) vals:=⟨_,rfl⟩
 have hV0:V 0=vals:=by rw[hV];rfl
 have hVs:∀i (hi:i<order.length),V (i+1)=Qh ni inl nds tks date (V i) order[i]:=fun i hi=>by
  rw[hV]
  simp only
  rw[List.take_add_one,Ze hi,Option.toList_some,List.foldl_append]
  rfl
 have hVe:JY ni inl nds tks order date vals=V order.length:=by rw[hV];simp only;rw[ZR];rfl
 rw[hVe]
 have HV:=hid (Zh hV0 hVs)
 clear h hin hr hok htk hT hN hvl hbi hbv hor hot hV hV0 hVs hVe
 go_enter Tryz.func52,Tryz.ntmps52
 go_wp2
 go_loopw [11] (fun s11 wr=>Hid (∃i vs',s11=.int .i64 ((i:Nat):Int)∧i≤order.length∧Bv (m+i) (V i)∧(V i).length=tks.length∧StM wI W0 wr mb vb ai an aT ni ci cn nn tks ct ain inl cin cv vs' (V i))) (fun s _=>order.length-(intOf s).toNat)
 case atStart=>exact⟨0,vs,rfl,Zk _,by rw[HV.out.1];exact HBV.out.1,by rw[HV.out.1];exact HBV.out.2,by rw[HV.out.1];exact HST.out⟩
 clear HST HBV
 obtain⟨wo,rfl⟩:∃wo:World,wo=wr:=⟨_,rfl⟩
 obtain⟨i,vs',rfl,hi,hbv,hvl,hst⟩:=hrel.out
 clear hrel
 by_cases hio:i<order.length
 ·have hst1:=HV.out.2 i hio
  obtain⟨t,ht⟩:∃t,order[i]=t:=⟨_,rfl⟩
  rw[ht] at hst1
  have htt:t<tks.length:=by rw[←ht];exact HP.out.2.2.2.2 _ (Zi hio)
  obtain⟨d,hd⟩:∃d,tks[t]?=some d:=⟨_,Ze htt⟩
  have hdm:d∈tks:=Z8 hd
  obtain⟨k,hk1,hk2⟩:=HP.out.1.node d hdm
  obtain⟨ha1,ha2⟩:=HP.out.1.args d hdm
  have htV:t<(V i).length:=oq
  obtain⟨a,c,hv,hcell,how⟩:=hst.val htV
  have hgd:(V i).getD t []=(V i)[t]:=by simp[List.getD,htV]
  have hlow:=hst.low
  obtain⟨bo,oo,rfl,hbo,hco⟩:=HC.out.2.2.2.resolve_left (fun e=>by rw[e] at hio;simp at hio)
  have o1:wo.cell? ⟨bo,oo+i,none⟩=some (.int .i64 (t:Int)):=(hlow.cell (p:=⟨bo,oo+i,none⟩) hbo).trans (hco i t (by rw[←ht];exact Ze hio))
  obtain⟨bt,ot,hat,hbt,hct⟩:=HC.out.2.2.1.resolve_left (fun e=>by rw[e] at htt;simp at htt)
  subst hat
  obtain⟨t0,t1,t2,ta,tc,t3,htr⟩:=gY wI wo bt _ _ hlow hbt (hct t htt)
  rw[show tks[t]=d by rw[Ze htt] at hd;injection hd] at t0 t1 t2 t3 htr
  rw[hk1] at t0
  have x5:=(hst.box 5).trans hst.c5
  have x2:=(hst.box 2).trans hst.c2
  have hbl:=hbv _ (Zi htV)
  have HS:=hid hst
  have HB:=hid hbv
  have HTR:=hid htr
  have i0:(0:Int)≤(i:Int):=oq
  have i1:(i:Int)<(order.length:Int):=oq
  have j0:(0:Int)≤(t:Int):=oq
  have j1:(t:Int)<(tks.length:Int):=oq
  have j2:(t:Int)<((V i).length:Int):=oq
  by_cases hdt:Jg d.per d.ph (((V i)[t]).length:Int)=date
  ·have hnk:nds[d.node.toNat]?=some nds[k]:=by rw[show d.node.toNat=k by omega];exact Ze hk2
   have hyes:=ed (ni:=ni) (inl:=inl) (vals:=V i) (date:=date) hd hnk (by rw[hgd];exact hdt)
   rw[hgd] at hyes
   have hJ:=fun(W':World) (hb:Below wo.heap.size wo W')=>e9 (w:=W') ((hst.below hb).mnr HC.out.1) (by have:=HP.out.1.len;omega) ((hst.below hb).mnn hn HC.out.2.1 HP.out.2.2.1) k hk2 d.per d.ph d.args ta tc ha1 (htr.below EB hb) (fun a ha=>by have:=ha2 a ha;rw[hvl];exact this) (((V i)[t]).length:Int) (jn HP.out.2.2.2.1 hbv HP.out.2.1 hdm _)
   obtain⟨x,hx⟩:∃x,KQ ni inl (V i) nds[k] d.args (((V i)[t]).length:Int)=x:=⟨_,rfl⟩
   rw[hx] at hyes hJ
   have hxb:B64 x:=by rw[←hx];exact kI HP.out.2.2.2.1 hbv HP.out.2.1 hdm (HP.out.2.2.1 _ (Zi hk2)) _
   have HJ:=hid hJ
   have HDA:=hid (fun W=>V3 d.per d.ph (((V i)[t]).length:Int) W)
   rw[hdt] at HDA
   rw[hyes] at hst1
   have HW1:=hid (Zh hst1 (Zh hvl hxb))
   have HOW:=hid how
   have HVT:=hid hv
   obtain⟨ln,hln⟩:∃ln,((V i)[t]).length=ln:=⟨_,rfl⟩
   have HLN:=hid hln
   rw[hln] at hcell HDA HJ HOW HVT hbl
   obtain⟨l1,l2,l3,l4,l5⟩:=hst.lo
   have hsz:=hst.but.size
   have hfz:wo.frozen? ⟨vb,t,none⟩=false:=by simp[World.frozen?,hst.row]
   clear hst hbv hvl hst1 ht hd hdm ha1 ha2 hv how hgd hlow hco hct htr hdt hln hk1 hnk hyes hJ hx hxb
   go_upto_region 5 with (go_at_call 20;refine(HDA.out _).mono ?_;rintro y w2 ⟨rfl,hb2⟩;have HB2:=hid hb2;clear hb2)
   obtain⟨i0',hi0',hi1',hi2',hi3'⟩:=info_parts EZ
   have HI:=hid (Zh hi0' (Zh hi1' (Zh hi2' hi3')))
   clear hi0' hi1' hi2' hi3'
   have hz2:=HB2.out.size
   rw[zH]
   go_cut [] (fun W=>Hid (∃w5 w4 gg cap4,W=w4.setCell ⟨vb,t,none⟩ (.slice (some ⟨gg,0,none⟩) (ln+1) cap4)∧Below wo.heap.size wo w5∧w4.ownsRow W0.heap.size 2 1 (.slice (some ⟨gg,0,none⟩) (ln+1) cap4) (ln+1) (ints (V i)[t]++[.int .i64 x])∧But (fun k=>(Value.slice a ln c).ownBlock=some k) w5 w4∧((Value.slice a ln c).ownBlock=some gg∨w5.heap.size≤gg)))
   case first =>
    clear HV HC HP HS HB HTR HW1 HVT HDA
    have HBD:=hid (show Below wo.heap.size wo w2.drew from HB2.out.drew)
    have HCELL:=hid hcell
    have HFZ:=hid hfz
    have HK0:=hid (show TkS mb bt ot t vb (V i).length cv tks.length ct (k:Int) d.per d.ph ta d.args.length tc wo from ⟨x5,x2,t0,t1,t2,t3⟩)
    have hbt2:bt<wo.heap.size:=oq
    have KA:=hid (show TkS mb bt ot t vb (V i).length cv tks.length ct (k:Int) d.per d.ph ta d.args.length tc w2.drew from XG HK0.out (HBD.out.block mb oq) (HBD.out.block bt hbt2))
    have dv:w2.drew.cell? ⟨vb,t,none⟩=some (.slice a ln c):=(HBD.out.cell (p:=⟨vb,t,none⟩) (by show vb<_;omega)).trans hcell
    clear x5 x2 hcell hfz t0 t1 t2 t3 o1
    refine ZN (S:=TkS mb bt ot t vb (V i).length cv tks.length ct (k:Int) d.per d.ph ta d.args.length tc) kq (by first|with_reducible exact KA.out|with_reducible exact KB.out|with_reducible exact KBA.out _|with_reducible exact KC.out|with_reducible exact KD.out _) (fun hHeld=>?_)
    refine tk 0 hHeld ?_
    refine tk 1 hHeld ?_
    refine tk 2 hHeld ?_
    refine tk 3 hHeld ?_
    refine tk 4 hHeld ?_
    refine tk 5 hHeld ?_
    refine tk 6 hHeld ?_
    refine tk 7 hHeld ?_
    refine tk 8 hHeld ?_
    refine tk 9 hHeld ?_
    refine tk 10 hHeld ?_
    refine tk 12 hHeld ?_
    refine tk 13 hHeld ?_
    refine tk 14 hHeld ?_
    refine tk 15 hHeld ?_
    refine tk 16 hHeld ?_
    refine tk 17 hHeld ?_
    refine tk 18 hHeld ?_
    refine tk 19 hHeld ?_
    refine tk 20 hHeld ?_
    refine tk 21 hHeld ?_
    refine rz 11 22 (fun K hK=>?_) fun K hK=>?_
    ·go_simp
     refine hK.out _ _ (fun hHeld=>?_) (by first|with_reducible exact KA.out|with_reducible exact KB.out|with_reducible exact KBA.out _|with_reducible exact KC.out|with_reducible exact KD.out _)
     clear hK K
     refine ry 22 fun K hK=>?_
     (go_simp;go_at_call 92;refine(HJ.out _ HBD.out).mono ?_;rintro y w5 ⟨rfl,hb5⟩;have hb6:Below wo.heap.size wo w5:=HBD.out.trans (hb5.mono HBD.out.size);have HB5:=hid hb6;have hz5:=hb6.size;have v5:=(hb6.cell (p:=⟨vb,t,none⟩) (by show vb<wo.heap.size;omega)).trans HCELL.out;have f5:w5.frozen? ⟨vb,t,none⟩=false:=(Z4 (a:=⟨vb,t,none⟩) (hb6.block vb oq)).trans HFZ.out;have va5:=fun(o:Obj)=>(Zn (w:=w5) (w':=w5.alloc o) (a:=⟨vb,t,none⟩) (Za _ _ _ (by show vb<w5.heap.size;omega))).trans v5;have KB:=hid (XG HK0.out (hb6.block mb oq) (hb6.block bt oq));have KBA:=hid (fun(o:Obj)=>XG KB.out (Za w5 o mb oq) (Za w5 o bt oq));clear hb5 hb6)
     refine hK.out _ _ (fun hHeld=>?_) (by first|with_reducible exact KA.out|with_reducible exact KB.out|with_reducible exact KBA.out _|with_reducible exact KC.out|with_reducible exact KD.out _)
     clear hK K
     refine ry 23 fun K hK=>?_
     go_simp
     refine hK.out _ _ (fun hHeld=>?_) (by first|with_reducible exact KA.out|with_reducible exact KB.out|with_reducible exact KBA.out _|with_reducible exact KC.out|with_reducible exact KD.out _)
     clear hK K
     refine ry 24 fun K hK=>?_
     (refine step_append_lies _ (by rfl) _ _ _ (by rfl) W0.heap.size 2 i0' _ 1 8 Tryz.underlying54 HI.out.1 HI.out.2.1 HI.out.2.2.1 HI.out.2.2.2 rfl oq (.slice a ln c) ln (ints (V i)[t]) (by rfl) (own_below HOW.out (HB5.out.alloc HB5.out.size _)) ⟨w5.heap.size,0,none⟩ 1 1 [.int .i64 x] (by rfl) (by rfl) (World.news_of_block (Zy _ _)) (by simp[Value.oneCell']) oq (by unfold maxLen;omega) oq (by simp;omega) (w5.heap.size+1) (by simp) ?_;intro gg cap4 w4 hown4 hgrow4 hat4 hlt4;have hbt4:But (fun k=>(Value.slice a ln c).ownBlock=some k) w5 w4:=(But.of_below ((Zg _ _).alloc (Zc _) _)).then (But.of_grown hgrow4) (fun i _ e=>e);have hnr:¬(Value.slice a ln c).ownBlock=some vb:=(fun e=>by have:=YW HOW.out vb e;omega);have f4:=(Z4 (a:=⟨vb,t,none⟩) (hbt4.block vb oq hnr)).trans f5;have c4:=(Zn (a:=⟨vb,t,none⟩) (hbt4.block vb oq hnr)).trans v5;have KC:=hid (XG KB.out (hbt4.block mb oq (fun e=>by have:=YW HOW.out mb e;omega)) (hbt4.block bt oq (fun e=>by have:=YW HOW.out bt e;omega)));have KD:=hid (fun(u:Value)=>XG KC.out (Zr w4 ⟨vb,t,none⟩ u mb (by show mb≠vb;omega)) (Zr w4 ⟨vb,t,none⟩ u bt (by show bt≠vb;omega)));have HO4:=hid hown4;have HBT4:=hid hbt4;have HG4:=hid (show(Value.slice a ln c).ownBlock=some gg∨w5.heap.size≤gg from hat4.elim .inl (fun e=>.inr oq));clear hown4 hgrow4 hat4 hbt4 hnr)
     refine hK.out _ _ (fun hHeld=>?_) (by first|with_reducible exact KA.out|with_reducible exact KB.out|with_reducible exact KBA.out _|with_reducible exact KC.out|with_reducible exact KD.out _)
     clear hK K
     refine tk 25 hHeld ?_
     refine ry 26 fun K hK=>?_
     go_simp
     refine hK.out _ _ (fun hHeld=>?_) (by first|with_reducible exact KA.out|with_reducible exact KB.out|with_reducible exact KBA.out _|with_reducible exact KC.out|with_reducible exact KD.out _)
     clear hK K
     refine Zx kq ?_ _
     (go_wp2_with fail;go_meet;exact hid ⟨w5,w4,gg,cap4,rfl,HB5.out,HO4.out,HBT4.out,HG4.out⟩)
    (go_simp;go_at_call 92;refine(HJ.out _ HBD.out).mono ?_;rintro y w5 ⟨rfl,hb5⟩;have hb6:Below wo.heap.size wo w5:=HBD.out.trans (hb5.mono HBD.out.size);have HB5:=hid hb6;have hz5:=hb6.size;have v5:=(hb6.cell (p:=⟨vb,t,none⟩) (by show vb<wo.heap.size;omega)).trans HCELL.out;have f5:w5.frozen? ⟨vb,t,none⟩=false:=(Z4 (a:=⟨vb,t,none⟩) (hb6.block vb oq)).trans HFZ.out;have va5:=fun(o:Obj)=>(Zn (w:=w5) (w':=w5.alloc o) (a:=⟨vb,t,none⟩) (Za _ _ _ (by show vb<w5.heap.size;omega))).trans v5;have KB:=hid (XG HK0.out (hb6.block mb oq) (hb6.block bt oq));have KBA:=hid (fun(o:Obj)=>XG KB.out (Za w5 o mb oq) (Za w5 o bt oq));clear hb5 hb6)
    refine hK.out _ _ (fun hHeld=>?_) (by first|with_reducible exact KA.out|with_reducible exact KB.out|with_reducible exact KBA.out _|with_reducible exact KC.out|with_reducible exact KD.out _)
    clear hK K
    refine rz 11 23 (fun K hK=>?_) fun K hK=>?_
    ·go_simp
     refine hK.out _ _ (fun hHeld=>?_) (by first|with_reducible exact KA.out|with_reducible exact KB.out|with_reducible exact KBA.out _|with_reducible exact KC.out|with_reducible exact KD.out _)
     clear hK K
     refine ry 23 fun K hK=>?_
     go_simp
     refine hK.out _ _ (fun hHeld=>?_) (by first|with_reducible exact KA.out|with_reducible exact KB.out|with_reducible exact KBA.out _|with_reducible exact KC.out|with_reducible exact KD.out _)
     clear hK K
     refine ry 24 fun K hK=>?_
     (refine step_append_lies _ (by rfl) _ _ _ (by rfl) W0.heap.size 2 i0' _ 1 8 Tryz.underlying54 HI.out.1 HI.out.2.1 HI.out.2.2.1 HI.out.2.2.2 rfl oq (.slice a ln c) ln (ints (V i)[t]) (by rfl) (own_below HOW.out (HB5.out.alloc HB5.out.size _)) ⟨w5.heap.size,0,none⟩ 1 1 [.int .i64 x] (by rfl) (by rfl) (World.news_of_block (Zy _ _)) (by simp[Value.oneCell']) oq (by unfold maxLen;omega) oq (by simp;omega) (w5.heap.size+1) (by simp) ?_;intro gg cap4 w4 hown4 hgrow4 hat4 hlt4;have hbt4:But (fun k=>(Value.slice a ln c).ownBlock=some k) w5 w4:=(But.of_below ((Zg _ _).alloc (Zc _) _)).then (But.of_grown hgrow4) (fun i _ e=>e);have hnr:¬(Value.slice a ln c).ownBlock=some vb:=(fun e=>by have:=YW HOW.out vb e;omega);have f4:=(Z4 (a:=⟨vb,t,none⟩) (hbt4.block vb oq hnr)).trans f5;have c4:=(Zn (a:=⟨vb,t,none⟩) (hbt4.block vb oq hnr)).trans v5;have KC:=hid (XG KB.out (hbt4.block mb oq (fun e=>by have:=YW HOW.out mb e;omega)) (hbt4.block bt oq (fun e=>by have:=YW HOW.out bt e;omega)));have KD:=hid (fun(u:Value)=>XG KC.out (Zr w4 ⟨vb,t,none⟩ u mb (by show mb≠vb;omega)) (Zr w4 ⟨vb,t,none⟩ u bt (by show bt≠vb;omega)));have HO4:=hid hown4;have HBT4:=hid hbt4;have HG4:=hid (show(Value.slice a ln c).ownBlock=some gg∨w5.heap.size≤gg from hat4.elim .inl (fun e=>.inr oq));clear hown4 hgrow4 hat4 hbt4 hnr)
     refine hK.out _ _ (fun hHeld=>?_) (by first|with_reducible exact KA.out|with_reducible exact KB.out|with_reducible exact KBA.out _|with_reducible exact KC.out|with_reducible exact KD.out _)
     clear hK K
     refine tk 25 hHeld ?_
     refine ry 26 fun K hK=>?_
     go_simp
     refine hK.out _ _ (fun hHeld=>?_) (by first|with_reducible exact KA.out|with_reducible exact KB.out|with_reducible exact KBA.out _|with_reducible exact KC.out|with_reducible exact KD.out _)
     clear hK K
     refine Zx kq ?_ _
     (go_wp2_with fail;go_meet;exact hid ⟨w5,w4,gg,cap4,rfl,HB5.out,HO4.out,HBT4.out,HG4.out⟩)
    go_simp
    refine hK.out _ _ (fun hHeld=>?_) (by first|with_reducible exact KA.out|with_reducible exact KB.out|with_reducible exact KBA.out _|with_reducible exact KC.out|with_reducible exact KD.out _)
    clear hK K
    refine ry 11 fun K hK=>?_
    go_simp
    refine hK.out _ _ (fun hHeld=>?_) (by first|with_reducible exact KA.out|with_reducible exact KB.out|with_reducible exact KBA.out _|with_reducible exact KC.out|with_reducible exact KD.out _)
    clear hK K
    refine ry 24 fun K hK=>?_
    (refine step_append_lies _ (by rfl) _ _ _ (by rfl) W0.heap.size 2 i0' _ 1 8 Tryz.underlying54 HI.out.1 HI.out.2.1 HI.out.2.2.1 HI.out.2.2.2 rfl oq (.slice a ln c) ln (ints (V i)[t]) (by rfl) (own_below HOW.out (HB5.out.alloc HB5.out.size _)) ⟨w5.heap.size,0,none⟩ 1 1 [.int .i64 x] (by rfl) (by rfl) (World.news_of_block (Zy _ _)) (by simp[Value.oneCell']) oq (by unfold maxLen;omega) oq (by simp;omega) (w5.heap.size+1) (by simp) ?_;intro gg cap4 w4 hown4 hgrow4 hat4 hlt4;have hbt4:But (fun k=>(Value.slice a ln c).ownBlock=some k) w5 w4:=(But.of_below ((Zg _ _).alloc (Zc _) _)).then (But.of_grown hgrow4) (fun i _ e=>e);have hnr:¬(Value.slice a ln c).ownBlock=some vb:=(fun e=>by have:=YW HOW.out vb e;omega);have f4:=(Z4 (a:=⟨vb,t,none⟩) (hbt4.block vb oq hnr)).trans f5;have c4:=(Zn (a:=⟨vb,t,none⟩) (hbt4.block vb oq hnr)).trans v5;have KC:=hid (XG KB.out (hbt4.block mb oq (fun e=>by have:=YW HOW.out mb e;omega)) (hbt4.block bt oq (fun e=>by have:=YW HOW.out bt e;omega)));have KD:=hid (fun(u:Value)=>XG KC.out (Zr w4 ⟨vb,t,none⟩ u mb (by show mb≠vb;omega)) (Zr w4 ⟨vb,t,none⟩ u bt (by show bt≠vb;omega)));have HO4:=hid hown4;have HBT4:=hid hbt4;have HG4:=hid (show(Value.slice a ln c).ownBlock=some gg∨w5.heap.size≤gg from hat4.elim .inl (fun e=>.inr oq));clear hown4 hgrow4 hat4 hbt4 hnr)
    refine hK.out _ _ (fun hHeld=>?_) (by first|with_reducible exact KA.out|with_reducible exact KB.out|with_reducible exact KBA.out _|with_reducible exact KC.out|with_reducible exact KD.out _)
    clear hK K
    refine tk 25 hHeld ?_
    refine ry 26 fun K hK=>?_
    go_simp
    refine hK.out _ _ (fun hHeld=>?_) (by first|with_reducible exact KA.out|with_reducible exact KB.out|with_reducible exact KBA.out _|with_reducible exact KC.out|with_reducible exact KD.out _)
    clear hK K
    refine Zx kq ?_ _
    (go_wp2_with fail;go_meet;exact hid ⟨w5,w4,gg,cap4,rfl,HB5.out,HO4.out,HBT4.out,HG4.out⟩)
   obtain⟨W,rfl⟩:∃W:World,W=wc:=⟨_,rfl⟩
   obtain⟨w5,w4,gg,cap4,hwc,hb5,ho4,hbt4,hg4⟩:=hcut.out
   clear hcut HI HB2 HJ HDA HC HTR
   have HNX:=hid (show ∃vs'',StM wI W0 W mb vb ai an (some ⟨bt,ot,none⟩) ni ci cn nn tks ct ain inl cin cv vs'' (V (i+1)) from by
    have hst:=HS.out
    have hown:=HOW.out
    have hvt:=HVT.out
    have hnr:¬(Value.slice a ln c).ownBlock=some vb:=fun e=>by have:=YW hown vb e;omega
    have hz5:=hb5.size
    have hs4:=hbt4.size
    have hg:But (fun k=>(Value.slice a ln c).ownBlock=some k∨k<W0.heap.size) wo (w4.setCell ⟨vb,t,none⟩ (.slice (some ⟨gg,0,none⟩) (ln+1) cap4)) :=
     ((But.of_below hb5).trans (hbt4.imp (fun i _ e=>.inl e))).trans (But.set (.inr l4) _)
    have hg2:But (fun k=>(Value.slice a ln c).ownBlock=some k∨k=vb) wo (w4.setCell ⟨vb,t,none⟩ (.slice (some ⟨gg,0,none⟩) (ln+1) cap4)) :=
     ((But.of_below hb5).trans (hbt4.imp (fun i _ e=>.inl e))).trans (But.set (.inr rfl) _)
    have hrow4:w4.heap[vb]?=some (.cells vs'.toArray 54 (0,0)):=(hbt4.block vb oq hnr).trans ((hb5.block vb oq).trans hst.row)
    have hlx:(ints ((V i)[t]++[x])).length=ln+1:=by rw[QX,Zw,HLN.out];rfl
    have hfam:=hst.fam.put hvt hg (v':=.slice (some ⟨gg,0,none⟩) (ln+1) cap4) (xs':=ints ((V i)[t]++[x])) (by rw[hlx,←JU];exact Xw ho4 oq _) (fun k hk=>by
     have hk:gg=k:=by injection hk
     subst hk
     exact hg4.imp id (fun h=>oq))
    refine⟨vs'.set t (.slice (some ⟨gg,0,none⟩) (ln+1) cap4),?_⟩
    rw[HW1.out.1,hwc]
    refine⟨hst.old,hst.but.then hg2 (fun k hk h=>?_),⟨l1,l2,l3,l4,l5⟩,hst.c0,hst.c1,hst.c2,hst.c4,by rw[List.length_set];exact hst.c5,?_,by rw[List.map_set];exact hfam⟩
    ·rcases h with h|h
     ·have:=YW hown k h;omega
     exact h
    have:=Zj w4 vb t _ _ (.slice (some ⟨gg,0,none⟩) (ln+1) cap4) hrow4
    rw[this,List.setIfInBounds_toArray])
   obtain⟨vsn,hnx⟩:=HNX.out
   have HNS:=hid hnx
   clear hnx HNX hwc
   go_wp2
   refine⟨hid ⟨i+1,vsn,by rw[show((i+1:Nat):Int)=(i:Int)+1 by omega],hio,?_,?_,?_⟩,?_⟩
   ·rw[HW1.out.1]
    have hgd2:(V i).getD t []=(V i)[t]:=by simp[List.getD,htV]
    rw[←hgd2]
    exact HB.out.set t HW1.out.2.2
   ·rw[HW1.out.1,List.length_set]
    exact HW1.out.2.1
   ·exact HNS.out
   show order.length-((i:Int)+1).toNat<order.length-(i:Int).toNat
   omega
  have hno:=ZaK (ni:=ni) (inl:=inl) (nds:=nds) (vals:=V i) hd (by rw[hgd];exact hdt)
  rw[hno] at hst1
  obtain⟨dv,hdv⟩:∃dv,Jg d.per d.ph (((V i)[t]).length:Int)=dv:=⟨_,rfl⟩
  have HDA:=hid (fun W=>V3 d.per d.ph (((V i)[t]).length:Int) W)
  rw[hdv] at hdt HDA
  have hne:(dv == date)=false:=ZW.2 hdt
  have HW1:=hid (Zh hst1 (Zh hvl hdv))
  obtain⟨ln,hln⟩:∃ln,((V i)[t]).length=ln:=⟨_,rfl⟩
  rw[hln] at hcell HDA
  clear hst hbv hvl hst1 ht hd hdm ha1 ha2 hv how hgd hlow hco hct htr hbl hno hdv hln hk1
  go_wp2_with (go_at_call 20;refine(HDA.out _).mono ?_;rintro y w2 ⟨rfl,hb2⟩;have HB2:=hid hb2;clear hb2)
  refine⟨hid ⟨i+1,vs',by rw[show((i+1:Nat):Int)=(i:Int)+1 by omega],hio,?_,?_,?_⟩,?_⟩
  ·rw[HW1.out.1]
   exact fun l hl=>⟨by have:=(HB.out l hl).1;omega,(HB.out l hl).2⟩
  ·rw[HW1.out.1]
   exact HW1.out.2.1
  ·rw[HW1.out.1]
   exact HS.out.below HB2.out
  show order.length-((i:Int)+1).toNat<order.length-(i:Int).toNat
  omega
 obtain rfl:i=order.length:=oq
 have HS:=hid hst
 clear hst hbv hvl
 go_wp2
 go_end0
 exact⟨rfl,vs',HS.out⟩
end Go.Proofs.YtlhlcdjiafdoeaaGreatDoor.syn
