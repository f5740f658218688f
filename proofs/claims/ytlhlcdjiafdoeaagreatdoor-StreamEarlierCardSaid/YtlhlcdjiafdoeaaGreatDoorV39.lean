/- Parts of the proof. -/
import Derived.Test.YtlhlcdjiafdoeaaGreatDoorV38
set_option linter.all false
set_option maxRecDepth 100000
set_option maxHeartbeats 16000000
namespace Go.Proofs.YtlhlcdjiafdoeaaGreatDoor.syn
open Go.RowKit
theorem gD {f:FD} (hL:f.tells.length≤1000) {nds:List NE} {inl:List (List Int)} {u:Int} {x:Ending} {w':World} (h:uL f nds inl u x w'):∃s ad cap,x=.returned (.tuple #[.slice ad s.length cap,.int .i64 (JK f u)])∧s.length≤100000000000∧(JK f u=0→Ez f inl (J1 f nds inl u) u s∧Row SdR 4 w' s ad):=by
 rcases h with ⟨he,l,ad,cap,hl,hx,hr⟩|⟨he,hx⟩
 ·refine⟨l,ad,cap,by rw[hx,he],?_,fun _=>⟨hl,hr⟩⟩
  obtain⟨hri,hu,_⟩:=Kz he
  rw[hl.1.length_eq]
  have h1:=Gm (Va hri) (inl:=inl) (vals:=J1 f nds inl u) hu.2 f.tells.length
  have h2:=Nat.mul_le_mul_right 20001 hL
  omega
 exact⟨[],none,0,by rw[hx];rfl,by simp,fun h=>absurd h he⟩
structure xA (R L:List Int) (k:Nat):Prop where
 le:k≤R.length
 len:L.length=R.length
 got:∀j,j<k→L[j]?=R[j]?
theorem xA.next {R L:List Int} {k:Nat} (h:xA R L k) (hk:k<R.length) {v:Int} (hv:R[k]?=some v):xA R (L.set k v) (k+1):=by
 refine⟨hk,by rw[List.length_set];exact h.len,fun j hj=>?_⟩
 by_cases hjk:j=k
 ·subst hjk
  have:=h.len
  rw[List.getElem?_set_self oq,hv]
 rw[List.getElem?_set_ne (fun e=>hjk e.symm)]
 exact h.got j oq
theorem xA.all {R L:List Int} (h:xA R L R.length):L=R:=by
 apply List.ext_getElem?
 intro j
 by_cases hj:j<R.length
 ·exact h.got j hj
 have:=h.len
 rw[Ya oq,Ya oq]
theorem yG (l:List Int) (n:Nat):(Vj l n).length=n+20:=by simp[Vj]
theorem Zao {l:List Int} {n k:Nat} (hk:k<n+20):(Vj l n)[k]?=some (if k<n then X7 l (k:Int) else 77):=by
 unfold Vj
 rw[List.getElem?_map,List.getElem?_range hk]
 rfl
theorem vQ (f:FD) (inl:List (List Int)) (a:Int) (k:Nat):Ud f inl a (k+1)=Ud f inl a k++[Vj (inl.getD k []) (qF f a k)]:=by unfold Ud;rw[List.range_succ,ZT];rfl
theorem gi (f:FD) (inl:List (List Int)) (a:Int) (k:Nat):(Ud f inl a k).length=k:=by simp[Ud]
theorem ZbG {W:World} {b1 b2 s1 s2 n1 n2:Nat} {e1 e2:TypeId} {v1 v2:Value} {xs1 xs2:List Value} (h1:W.ownsRow b1 e1 s1 v1 n1 xs1) (h2:W.ownsRow b2 e2 s2 v2 n2 xs2) (hne:e1≠e2):∀k,v1.ownBlock=some k→¬v2.ownBlock=some k:=by
 intro k hk1 hk2
 rcases h1.2 with ⟨rfl,_⟩|⟨g,cap,cur,rfl,_,hg,_⟩
 ·cases hk1
 rcases h2.2 with ⟨rfl,_⟩|⟨g2,cap2,cur2,rfl,_,hg2,_⟩
 ·cases hk2
 injection hk1 with hk1
 injection hk2 with hk2
 subst hk1
 subst hk2
 rw[hg] at hg2
 injection hg2 with hg2
 injection hg2 with _ h3 _
 exact hne h3
structure Vr (W6 W:World) (v:Value) (ll:List (List Int)):Prop where
 low:Below W6.heap.size W6 W
 own:∃vs:List Value,vs.length=ll.length∧W.ownsRow W6.heap.size 54 1 v ll.length vs∧(∀u∈vs,u.oneCell'=true)∧∀(j:Nat) (l:List Int),ll[j]?=some l→∃g c,vs[j]?=some (.slice (some ⟨g,0,none⟩) l.length c)∧W.ownsRow W6.heap.size 2 1 (.slice (some ⟨g,0,none⟩) l.length c) l.length (ints l)
theorem Vr.start (W:World):Vr W W (.slice none 0 0) []:=⟨Zg _ _,[],rfl,Yd _ _ _ _,fun u hu=>(by cases hu),fun j l h=>by simp at h⟩
theorem Vr.below {W6 W W':World} {v:Value} {ll:List (List Int)} (h:Vr W6 W v ll) (hb:Below W.heap.size W W'):Vr W6 W' v ll:=by
 obtain⟨vs,h1,h2,h3,h4⟩:=h.own
 exact⟨h.low.trans (hb.mono h.low.size),vs,h1,own_below h2 hb,h3,fun j l hj=>by
  obtain⟨g,c,h5,h6⟩:=h4 j l hj
  exact⟨g,c,h5,own_below h6 hb⟩⟩
theorem Vr.form {W6 W:World} {v:Value} {ll:List (List Int)} (h:Vr W6 W v ll):∃ad c,v=.slice ad ll.length c:=by
 obtain⟨vs,h1,h2,_⟩:=h.own
 exact YD h2
theorem Vr.rows {W6 W:World} {ad:Option Addr} {c:Nat} {ll:List (List Int)} (h:Vr W6 W (.slice ad ll.length c) ll):Qj W ad ll:=by
 obtain⟨vs,h1,h2,_,h4⟩:=h.own
 have h2':=h2
 rcases h2.2 with ⟨_,hn⟩|⟨g,cap,cur,e,hb,hg,_⟩
 ·exact .inl (Yb hn)
 injection e with e1 e2 e3
 subst e1
 refine .inr ⟨g,0,rfl,Zb hg,fun i l hl=>?_⟩
 obtain⟨g2,c2,h5,h6⟩:=h4 i l hl
 rw[ZC]
 exact⟨_,c2,(World.ownsRow.cellAt h2' i (by have:=(Zz.1 hl).1;omega)).trans h5,yJ h6⟩
theorem Vr.app {W6 W w4:World} {v v':Value} {ll:List (List Int)} (h:Vr W6 W v ll) {g c:Nat} {l:List Int} (hl:W.ownsRow W6.heap.size 2 1 (.slice (some ⟨g,0,none⟩) l.length c) l.length (ints l)) {vs:List Value}
  (hvs:vs.length=ll.length) (hown:W.ownsRow W6.heap.size 54 1 v ll.length vs) (hone:∀u∈vs,u.oneCell'=true) (hat:∀(j:Nat) (l:List Int),ll[j]?=some l→∃g c,vs[j]?=some (.slice (some ⟨g,0,none⟩) l.length c)∧W.ownsRow W6.heap.size 2 1 (.slice (some ⟨g,0,none⟩) l.length c) l.length (ints l))
  (h4:w4.ownsRow W6.heap.size 54 1 v' (ll.length+1) (vs++[.slice (some ⟨g,0,none⟩) l.length c])) (hb4:But (fun k=>v.ownBlock=some k) W w4):Vr W6 w4 v' (ll++[l]):=by
 have hne:∀(g2 c2 n2:Nat) (xs:List Value),W.ownsRow W6.heap.size 2 1 (.slice (some ⟨g2,0,none⟩) n2 c2) n2 xs→w4.ownsRow W6.heap.size 2 1 (.slice (some ⟨g2,0,none⟩) n2 c2) n2 xs:=fun g2 c2 n2 xs ho =>
  hb4.own ho (ZbG ho hown (by decide))
 refine⟨h.low.trans (hb4.below h.low.size (fun k hk=>YW hown k hk)),vs++[.slice (some ⟨g,0,none⟩) l.length c],by simp[hvs],by simpa using h4,fun u hu=>?_,fun j m hj=>?_⟩
 ·rcases List.mem_append.1 hu with hu|hu
  ·exact hone u hu
  rw[List.mem_singleton.1 hu];rfl
 by_cases hjl:j<ll.length
 ·rw[List.getElem?_append_left hjl] at hj
  obtain⟨g2,c2,h5,h6⟩:=hat j m hj
  exact⟨g2,c2,by rw[List.getElem?_append_left oq];exact h5,hne _ _ _ _ h6⟩
 have hj2:j=ll.length:=by
  have:=(Zz.1 hj).1
  simp at this
  omega
 subst hj2
 rw[List.getElem?_append_right (Zc _),Nat.sub_self] at hj
 have hm:l=m:=by simpa using hj
 subst hm
 exact⟨g,c,by rw[List.getElem?_append_right oq,hvs,Nat.sub_self];rfl,hne _ _ _ _ hl⟩
theorem jD (f:FD) {a:Int} (ha:a≤20000) (i:Nat):qF f a i≤20001:=by
 unfold qF
 cases hx:f.ins[i]? with
 | none=>simp
 | some c =>
  simp only
  by_cases hr:clock.YA c.1 c.2=true
  ·apply Yf
   intro hlt
   have h1:=(J6 (JB hr) ha 20001).1 oq
   have h2:=JB hr
   have:=Int.mul_le_mul_of_nonneg_left (show(1:Int)≤c.1 by omega) (show(0:Int)≤((20001:Nat):Int) by omega)
   omega
  have:XO c.1 c.2 a=0:=by unfold XO;rw[ZZ (fun h=>hr h.1)]
  rw[this];simp
theorem ZbE {f:FD} {inl:List (List Int)} {m:Nat} (hb:Bv m inl) {a:Int} (ha:a≤20000):∀k,Bv 100000 (Ud f inl a k):=by
 intro k l hl
 obtain⟨i,hi,rfl⟩:=Yc.1 hl
 have hN:=jD f ha i
 refine⟨by rw[yG];omega,fun x hx=>?_⟩
 obtain⟨k,hk,rfl⟩:=Yc.1 hx
 split
 ·refine kZ (fun y hy=>?_) _
  rw[Zf] at hy
  cases hg:inl[i]? with
  | none=>rw[hg] at hy;simp at hy
  | some l=>rw[hg] at hy;exact(hb l (Z8 hg)).2 y hy
 unfold B64;omega
theorem SdRow.at {w:World} {ad:Option Addr} {l:List SdD} (h:Row SdR 4 w l ad) {t:Nat} (ht:t<l.length):∃b o,ad=some ⟨b,o,none⟩∧b<w.heap.size∧SdR w b (o+t*4) l[t]:=by
 obtain⟨b,o,e,hb,hc⟩:=h.resolve_left (fun e=>by rw[e] at ht;simp at ht)
 exact⟨b,o,e,hb,hc t ht⟩
theorem zO {w:World} (p0 p1 p2 p3:Option Addr) (n0 n1 n2 n3 c0 c1 c2 c3:Nat)
  (hM:∀W,Below w.heap.size w W→Calls Tryz.prog 7 #[.agg #[.slice p0 n0 c0,.slice p1 n1 c1,.slice p2 n2 c2,.slice p3 n3 c3]] W fun x w'=>ZaR x w'∧Below W.heap.size W w')
  (inl:List (List Int)) (ain:Option Addr) (cin:Nat) (hin:Qj w ain inl) {m':Nat} (hbi:Bv m' inl) (d0 d1:Nat) (hd0:d0≤255) (hd1:d1≤255) :
  Calls Tryz.prog 4 #[.agg #[.slice p0 n0 c0,.slice p1 n1 c1,.slice p2 n2 c2,.slice p3 n3 c3],.slice ain inl.length cin,.agg #[.int .u8 (d0:Int),.int .u8 (d1:Int)]] w fun x w'=>x=.returned (.bool true)∧Below w.heap.size w w':=by
 have HM:=hid hM
 have HIN:=hid (Zh hin hbi)
 have HAW:=hid (fun W=>zF W)
 have HFE:=hid (fun W (hb:Below w.heap.size w W)=>vl (w:=W) inl ain cin (hin.keep hb.block))
 have HSA:=hid (fun(w0 W:World) (f:FD) (nds:List NE) ai an aT al ci cn ct cl (hf:FAP w0 f ai an aT al) (hn:xC w0 f an nds) (h0:Below w0.heap.size w0 W) (il:List (List Int)) (ia:Option Addr) (ic:Nat) (hi:Qj W ia il) (mm:Nat) (hb:Bv mm il) (u:Int)=>gE (w:=W) f ai an aT al ci cn ct cl (hf.below h0) nds (hn.below h0) il ia ic hi hb u)
 have HJB:=hid (fun(p q u:Int) (W:World)=>KR p q u W)
 clear hM hin hbi
 unfold fv at HSA
 obtain⟨W1,hW1⟩:∃W1,((w.alloc (.cells #[.slice p0 n0 c0,.slice p1 n1 c1,.slice p2 n2 c2,.slice p3 n3 c3] 27)).alloc (.cells #[.int .u8 (d0:Int),.int .u8 (d1:Int)] 59))=W1:=⟨_,rfl⟩
 have hB:Below w.heap.size w W1:=by rw[←hW1];exact bq
 have hs1:W1.heap.size=w.heap.size+2:=by rw[←hW1];simp
 have hq0:W1.heap[w.heap.size]?=some (.cells #[.slice p0 n0 c0,.slice p1 n1 c1,.slice p2 n2 c2,.slice p3 n3 c3] 27 (0,0)):=by rw[←hW1];exact(Za _ _ _ (by simp)).trans (Yt w _)
 have hr0:W1.heap[w.heap.size+1]?=some (.cells #[.int .u8 (d0:Int),.int .u8 (d1:Int)] 59 (0,0)):=by rw[←hW1];simpa using Yt (w.alloc (.cells #[.slice p0 n0 c0,.slice p1 n1 c1,.slice p2 n2 c2,.slice p3 n3 c3] 27)) _
 have hl0:=Zb hq0
 have hl1:=Zb hr0
 have HB:=hid hB
 have HQ:=hid hq0
 have HR:=hid hr0
 clear hB hq0 hr0
 obtain⟨u1,ra⟩:∃u1:Int,(d0:Int).tmod 100=u1:=⟨_,rfl⟩
 obtain⟨e1,re⟩:∃e1:Int,(d1:Int).tmod 50=e1:=⟨_,rfl⟩
 have bu:0≤u1∧u1<100:=by rw[←ra,Int.tmod_eq_emod_of_nonneg oq];omega
 have be:0≤e1∧e1<50:=by rw[←re,Int.tmod_eq_emod_of_nonneg oq];omega
 have wa:IntKind.u8.wrap u1=u1:=by unfold IntKind.wrap;simp[IntKind.signed,IntKind.bits];omega
 have we:IntKind.u8.wrap e1=e1:=by unfold IntKind.wrap;simp[IntKind.signed,IntKind.bits];omega
 have xa:IntKind.i64.wrap u1=u1:=ZJ _ oq
 have xe:IntKind.i64.wrap e1=e1:=ZJ _ oq
 obtain⟨u2,hu2⟩:∃u2,u1+e1=u2:=⟨_,rfl⟩
 have xs:IntKind.i64.wrap (u1+e1)=u2:=by rw[ZJ _ oq,hu2]
 have HU:=hid (show(0≤u1∧u1≤20000)∧(0≤u2∧u2≤20000)∧u1≤u2 by omega)
 clear bu be hu2
 go_enter Tryz.func4,Tryz.ntmps4
 go_upto_region 1 with fail
 first|rw[hW1]|skip
 clear hW1
 go_upto_region 6 with (first
  | (go_at_call 5;refine(HAW.out _).mono ?_;rintro x w2 ⟨rfl,hb2⟩;first|(have HB3:=hid (HB2.out.trans (hb2.mono HB2.out.size));clear hb2)|(have HB2:=hid (HB.out.trans (hb2.mono HB.out.size));have HL2:=hid hb2;have hs2:=hb2.size;obtain⟨⟨x0,x1,x2,x3⟩,xf⟩:=Yu ((hb2.block _ hl0).trans HQ.out);clear hb2))
  | (go_at_call 6;refine(HFE.out _ HB2.out).mono ?_;rintro x w3 ⟨⟨b3,rfl⟩,rfl⟩;cases b3)
  | (go_at_call 7;refine(HM.out _ HB2.out).mono ?_;rintro x w4 ⟨hans,hb4⟩;have HB4:=hid (HB2.out.trans (hb4.mono HB2.out.size));have hs4:=hb4.size;have HR4:=hid ((hb4.block _ oq).trans ((HL2.out.block _ hl1).trans HR.out));clear hb4;rcases hans with rfl|⟨f,nds,ai,an,aT,al,ci,cn,ct,cl,rfl,hf4,hn4⟩<;>(try (have HF4:=hid (Zh hf4 hn4);clear hf4 hn4;unfold fv))))
 ·exact Zl (v:=.bool true) (by simp only[results,Tryz.results4];go_simp) rfl ⟨rfl,HB3.out⟩
 ·exact Zl (v:=.bool true) (by simp only[results,Tryz.results4];go_simp) rfl ⟨rfl,bq⟩
 obtain⟨W5,hW5⟩:∃W5,w4.alloc (.cells #[.slice ai f.ins.length ci,.slice an f.nods.length cn,.slice aT f.tasks.length ct,.slice al f.tells.length cl] 35)=W5:=⟨_,rfl⟩
 have hq5:W5.heap[w4.heap.size]?=some (.cells #[.slice ai f.ins.length ci,.slice an f.nods.length cn,.slice aT f.tasks.length ct,.slice al f.tells.length cl] 35 (0,0)):=by rw[←hW5];exact Yt w4 _
 have hb5:Below w4.heap.size w4 W5:=by rw[←hW5];exact bq
 have hs5:w4.heap.size<W5.heap.size:=Zb hq5
 have HB5:=hid (HB4.out.trans (hb5.mono HB4.out.size))
 have HQ5:=hid hq5
 have HL5:=hid hb5
 have h5:=HB4.out.size
 obtain⟨⟨r0,r1⟩,rf⟩:=YG ((hb5.block _ oq).trans HR4.out)
 obtain⟨⟨y0,y1,y2,y3⟩,yf⟩:=Yu hq5
 obtain⟨er,her⟩:∃er,JK f u1=er:=⟨_,rfl⟩
 have her2:JK f u2=er:=(vg f HU.out.2.1 HU.out.1).trans her
 have hL1:=HF4.out.1.lens.1
 have hLt:=HF4.out.1.lens.2.2.2
 have HSV:=hid (fun(W:World) (hb:Below W5.heap.size W5 W) (il:List (List Int)) (ia:Option Addr) (ic:Nat) (hi:Qj W ia il) (mm:Nat) (hbv:Bv mm il) (u:Int)=>(HSA.out w4 W f nds ai an aT al ci cn ct cl HF4.out.1 HF4.out.2 (HL5.out.trans (hb.mono HL5.out.size)) il ia ic hi mm hbv u).mono (fun x w' h=>Zh (gD hLt h.1) h.2))
 have HSa:=hid (fun(W:World) (hb:Below W5.heap.size W5 W)=>HSV.out W hb inl ain cin (HIN.out.1.keep ((HB5.out.trans (hb.mono HB5.out.size)).block)) m' HIN.out.2 u1)
 rw[her] at HSa
 have HER:=hid (Zh her her2)
 rw[hW5]
 clear hW5 hq5 hb5 x0 x1 x2 x3 xf HM HFE HAW HSA HR HQ HR4 HL2 her her2
 go_upto_region 9 with (go_at_call 9;refine(HSa.out _ (Zg _ _)).mono ?_;rintro x w6 ⟨⟨s,sa,sc,rfl,hsl,hsx⟩,hb6⟩;have HB6:=hid hb6;have HSX:=hid hsx;have hs6:=hb6.size;have HQ6:=hid ((hb6.block _ hs5).trans HQ5.out);clear hb6 hsx)
 clear y0 y1 y2 y3 yf r0 r1 rf HSa ra re wa we xa xe xs hd0 hd1
 obtain⟨W6,rfl⟩:∃W6:World,W6=w6:=⟨_,rfl⟩
 have HINS:=hid ((HF4.out.1.below (HL5.out.trans (HB6.out.mono HL5.out.size))).ins)
 have HIW:=hid (HIN.out.1.keep ((HB5.out.trans (HB6.out.mono HB5.out.size)).block))
 obtain⟨i0,hi0,hi1,hi2,hi3⟩:=info_parts zZ
 have HI:=hid (Zh hi0 (Zh hi1 (Zh hi2 hi3)))
 clear hi0 hi1 hi2 hi3
 go_wp2
 go_loopw [13,14] (fun s13 s14 wr=>Hid (∃i:Nat,s14=.int .i64 (i:Int)∧i≤f.ins.length∧Vr W6 wr s13 (Ud f inl u1 i))) (fun _ s14 _=>f.ins.length-(intOf s14).toNat)
 case atStart=>exact⟨0,rfl,Zk _,Vr.start _⟩
 obtain⟨W7,rfl⟩:∃W7:World,W7=wr:=⟨_,rfl⟩
 obtain⟨i,rfl,hi,hot⟩:=hrel.out
 clear hrel
 obtain⟨oa,oc,rfl⟩:=hot.form
 have HOT:=hid hot
 have hz7:=hot.low.size
 obtain⟨⟨y0,y1,y2,y3⟩,yf⟩:=Yu ((hot.low.block w4.heap.size oq).trans HQ6.out)
 obtain⟨nl,hnl⟩:∃nl,(Ud f inl u1 i).length=nl:=⟨_,rfl⟩
 have hnli:nl=i:=by rw[←hnl,gi]
 by_cases hil:i<f.ins.length
 ·have ix0:(0:Int)≤(i:Int):=oq
  have ix1:(i:Int)<(f.ins.length:Int):=oq
  obtain⟨c,hc⟩:∃c,f.ins[i]?=some c:=⟨_,Ze hil⟩
  have hci:f.ins[i]=c:=(Zz.1 hc).2
  obtain⟨bi,oi,rfl,hbi2,hcl⟩:=HINS.out.resolve_left (fun e=>by rw[e] at hil;simp at hil)
  have c0:=(hot.low.cell (p:=⟨bi,_,none⟩) hbi2).trans (hcl i hil).1
  have c1:=(hot.low.cell (p:=⟨bi,_,none⟩) hbi2).trans (hcl i hil).2
  rw[hci] at c0 c1
  obtain⟨n,hn⟩:∃n:Nat,qF f u1 i=n:=⟨_,rfl⟩
  have hnb:n≤20001:=by rw[←hn];exact jD f HU.out.1.2 i
  have hjn:XO c.1 c.2 u1=(n:Int):=by rw[←hn];unfold qF;rw[hc];have:=ye c.1 c.2 u1;simp only;omega
  have HJ:=hid (fun(W:World)=>HJB.out c.1 c.2 u1 W)
  rw[hjn] at HJ
  obtain⟨N,hN⟩:∃N,n+20=N:=⟨_,rfl⟩
  have hNb:N≤20021:=oq
  have e20:IntKind.i64.wrap ((n:Int)+20)=(N:Int):=by rw[ZJ _ oq];omega
  obtain⟨R,hR⟩:∃R,Vj (inl.getD i []) n=R:=⟨_,rfl⟩
  have hRl:R.length=N:=by rw[←hR,yG,hN]
  have HRA:=hid (fun(k:Nat) (hk:k<N)=>show R[k]?=some (if k<n then X7 (inl.getD i []) (k:Int) else 77) by rw[←hR];exact Zao oq)
  have HNX:=hid (show Ud f inl u1 (i+1)=Ud f inl u1 i++[R] by rw[vQ,hn,hR])
  have HNN:=hid hN
  have HNL:=hid (Zh hnl hnli)
  have hmk:=fun W=>run_make_row' (P:=Tryz.prog) 54 2 (.int .i64 0) 8 Tryz.underlying54 EZ rfl .i64 .i64 N oq oq W
  rw[hnl]
  have hnl2:nl≤1000:=oq
  clear hot hcl hc hci hn hjn hN hR hnl hnli HINS
  go_upto_region 14 with (go_at_call 13;refine(HJ.out _).mono ?_;rintro y w8 ⟨rfl,hb8⟩;have HB8:=hid hb8;have hz8:=hb8.size;clear hb8)
  clear y0 y1 y2 y3 yf c0 c1
  obtain⟨W8,rfl⟩:∃W8:World,W8=w8:=⟨_,rfl⟩
  go_upto_region 15 with fail
  obtain⟨W9,hW9⟩:∃W9,W8.alloc (.cells (madeCells #[.int .i64 0] N) 2)=W9:=⟨_,rfl⟩
  rw[hW9]
  have hb9:Below W8.heap.size W8 W9:=by rw[←hW9];exact(Zg _ _).alloc (Zc _) _
  have hs9:W9.heap.size=W8.heap.size+1:=by rw[←hW9];simp
  have how:W9.ownsRow W8.heap.size 2 1 (.slice (some ⟨W8.heap.size,0,none⟩) N N) N (ints (List.replicate N 0)):=by
   have h:=Yt W8 (.cells (madeCells #[.int .i64 0] N) 2)
   rw[hW9,VA] at h
   exact⟨by simp[ints],.inr ⟨W8.heap.size,N,_,rfl,Zc _,h,Zc _,by unfold maxLen;omega,by simp,by simp[ints]⟩⟩
  have HOW:=hid how
  have HB9:=hid (HB8.out.trans (hb9.mono HB8.out.size))
  clear hW9 hb9 how hmk
  go_wp2
  go_loopw [17] (fun s17 wr=>Hid (∃(k:Nat) (L:List Int),s17=.int .i64 (k:Int)∧xA R L k∧wr.ownsRow W8.heap.size 2 1 (.slice (some ⟨W8.heap.size,0,none⟩) N N) N (ints L)∧But (fun b=>b=W8.heap.size) W9 wr)) (fun s _=>N-(intOf s).toNat)
  case atStart=>exact⟨0,List.replicate N 0,rfl,⟨Zk _,by simp[hRl],fun j hj=>absurd hj (Yi _)⟩,HOW.out,But.refl _ _⟩
  clear HOW
  obtain⟨wo,rfl⟩:∃wo:World,wo=wr:=⟨_,rfl⟩
  obtain⟨k,L,rfl,hfl,hown,hbut⟩:=hrel.out
  clear hrel
  have hle:=hfl.le
  have hll:=hfl.len
  rw[hRl] at hle hll
  have HFL:=hid hfl
  have hzo:=hbut.size
  by_cases hkN:k<N
  ·have kl:(k:Int)<(N:Int):=oq
   have k0:(0:Int)≤(k:Int):=oq
   have hcell:=(World.ownsRow.cellAt hown k oq).trans (ints_at (l:=L) (i:=k) oq)
   have hfz:=World.ownsRow.frozenAt hown k
   have HOW:=hid hown
   have HBT:=hid hbut
   have HRK:=hid (HRA.out k hkN)
   have HNXT:=hid (fun(v:Int) (hv:R[k]?=some v)=>HFL.out.next (by rw[hRl];exact hkN) hv)
   clear hown hbut hfl
   go_upto_region 19 with fail
   obtain⟨wa,hwa⟩:∃wa,wo.setCell ⟨W8.heap.size,k,none⟩ (.int .i64 77)=wa:=⟨_,rfl⟩
   rw[hwa]
   have howa:wa.ownsRow W8.heap.size 2 1 (.slice (some ⟨W8.heap.size,0,none⟩) N N) N (ints (L.set k 77)):=by
    have:=Jy HOW.out k (.int .i64 77) hkN
    rw[ints_set,hwa] at this
    exact this
   have hba:But (fun b=>b=W8.heap.size) W9 wa:=by rw[←hwa];exact HBT.out.trans (But.set (S:=fun b=>b=W8.heap.size) rfl _)
   clear hwa hcell hfz
   by_cases hkn:k<n
   ·have kn:(k:Int)<(n:Int):=oq
    have HRV:=hid (show R[k]?=some (X7 (inl.getD i []) (k:Int)) by rw[HRK.out,Z0 hkn])
    have hcell:=(World.ownsRow.cellAt howa k oq).trans (ints_at (l:=L.set k 77) (i:=k) (by simp;omega))
    have hfz:=World.ownsRow.frozenAt howa k
    have HOA:=hid howa
    have HBA:=hid hba
    clear howa hba
    go_upto_region 21 with fail
    obtain⟨wb,hwb⟩:∃wb,wa.setCell ⟨W8.heap.size,k,none⟩ (.int .i64 0)=wb:=⟨_,rfl⟩
    rw[hwb]
    have howb:wb.ownsRow W8.heap.size 2 1 (.slice (some ⟨W8.heap.size,0,none⟩) N N) N (ints (L.set k 0)):=by
     have:=Jy HOA.out k (.int .i64 0) hkN
     rw[ints_set,List.set_set,hwb] at this
     exact this
    have hbb:But (fun b=>b=W8.heap.size) W9 wb:=by rw[←hwb];exact HBA.out.trans (But.set (S:=fun b=>b=W8.heap.size) rfl _)
    clear hwb hcell hfz
    have HOB:=hid howb
    have HBB:=hid hbb
    by_cases hii:i<inl.length
    ·have ii:(i:Int)<(inl.length:Int):=oq
     have hgi:inl.getD i []=inl[i]:=by simp[List.getD,hii]
     obtain⟨b3,o3,a3,c3,rfl,hb3,z3,zr3⟩:=HIW.out.at (t:=i) hii
     have hlo:Below W6.heap.size W6 wb:=(HOT.out.low.trans (HB9.out.mono hz7)).trans (hbb.below oq (fun b e=>oq))
     obtain⟨li,hli⟩:∃li,inl[i]=li:=⟨_,rfl⟩
     rw[hli] at z3 zr3 hgi
     have f3:=(hlo.cell (p:=⟨b3,_,none⟩) hb3).trans z3
     rw[hgi] at HRV
     have hcell:=(World.ownsRow.cellAt howb k oq).trans (ints_at (l:=L.set k 0) (i:=k) (by simp;omega))
     have hfz:=World.ownsRow.frozenAt howb k
     by_cases hkl:k<li.length
     ·have kl2:(k:Int)<(li.length:Int):=oq
      obtain⟨b5,o5,rfl,hb5,z5⟩:=zr3.at (t:=k) hkl
      have f5:=(hlo.cell (p:=⟨b5,_,none⟩) hb5).trans z5
      obtain⟨vk,hvk⟩:∃vk,li[k]=vk:=⟨_,rfl⟩
      rw[hvk] at f5
      have hnv:X7 li (k:Int)=vk:=by
       unfold X7
       rw[ZZ oq,ZP,Zf,Ze hkl,hvk]
       rfl
      rw[hnv] at HRV
      obtain⟨ln,hln⟩:∃ln,li.length=ln:=⟨_,rfl⟩
      rw[hln] at kl2 f3
      clear z3 zr3 z5 hlo hvk hnv howb hbb hgi hli hln
      go_wp2
      refine⟨hid ⟨k+1,L.set k vk,by go_num,HNXT.out vk HRV.out,?_,HBB.out.trans (But.set (S:=fun b=>b=W8.heap.size) rfl _)⟩,by simp[intOf];omega⟩
      have:=Jy HOB.out k (.int .i64 vk) hkN
      rw[ints_set,List.set_set] at this
      exact this
     have kl2:¬(k:Int)<(li.length:Int):=oq
     have hnv:X7 li (k:Int)=0:=by
      unfold X7
      rw[Z0 (.inr oq)]
     rw[hnv] at HRV
     obtain⟨ln,hln⟩:∃ln,li.length=ln:=⟨_,rfl⟩
     rw[hln] at kl2 f3
     clear z3 zr3 hlo hnv howb hbb hgi hli hln hcell hfz
     go_wp2
     exact⟨hid ⟨k+1,L.set k 0,by go_num,HNXT.out 0 HRV.out,HOB.out,HBB.out⟩,by simp[intOf];omega⟩
    have ii:¬(i:Int)<(inl.length:Int):=oq
    have hnv:X7 (inl.getD i []) (k:Int)=0:=by
     rw[Zf,Ya oq]
     unfold X7
     rw[Z0 (.inr (by simp))]
    rw[hnv] at HRV
    clear howb hbb hnv
    go_wp2
    exact⟨hid ⟨k+1,L.set k 0,by go_num,HNXT.out 0 HRV.out,HOB.out,HBB.out⟩,by simp[intOf];omega⟩
   have kn:¬(k:Int)<(n:Int):=oq
   have HOA:=hid howa
   have HBA:=hid hba
   have HRV:=hid (show R[k]?=some 77 by rw[HRK.out,ZZ hkn])
   clear howa hba
   go_wp2
   exact⟨hid ⟨k+1,L.set k 77,by go_num,HNXT.out 77 HRV.out,HOA.out,HBA.out⟩,by simp[intOf];omega⟩
  obtain rfl:k=N:=oq
  have kl:¬(k:Int)<(k:Int):=oq
  have hLR:L=R:=xA.all (by rw[hRl];exact hfl)
  subst hLR
  have hlo:Below W7.heap.size W7 wo:=HB9.out.trans (hbut.below oq (fun b e=>oq))
  have hot2:=HOT.out.below hlo
  obtain⟨vs,hv1,hv2,hv3,hv4⟩:=hot2.own
  have HOT2:=hid hot2
  have HV:=hid (Zh hv1 (Zh hv2 (Zh hv3 hv4)))
  have HOWN:=hid hown
  have hzl:=hot2.low.size
  rw[HNL.out.1] at hv2
  have HV2:=hid hv2
  clear hlo hot2 hv1 hv2 hv3 hv4 hown hbut hfl
  go_wp2_with (refine lite.Xd _ (by rfl) _ _ _ (by rfl) W6.heap.size 54 i0 _ 1 24 Tryz.underlying28 HI.out.1 HI.out.2.1 HI.out.2.2.1 HI.out.2.2.2 rfl oq (.slice oa nl oc) nl vs (by rfl) (own_below HV2.out ((Zg _ _).alloc (Zc _) _)) (some ⟨wo.heap.size,0,none⟩) 1 1 [.slice (some ⟨W8.heap.size,0,none⟩) k k] (by rfl) (by rfl) (fun j u h=>⟨_,rfl,World.news_of_block (Zy _ _) j u h⟩) (by simp[Value.oneCell']) (by unfold maxLen;omega) oq (by simp;omega) ?_;intro v4 wz hown4 hg4 hl4;have HO4:=hid hown4;obtain⟨ob,hob⟩:∃ob,(wo.alloc ob).grownBy wz (Value.slice oa nl oc).ownBlock:=⟨_,hg4⟩;have HB4:=hid (But.of_grown hob);clear hown4 hg4 hl4 hob)
  refine⟨hid ⟨i+1,by go_num,hil,?_⟩,by simp[intOf];omega⟩
  rw[HNX.out]
  have hba:Below wo.heap.size wo (wo.alloc ob):=(Zg _ _).alloc (Zc _) ob
  obtain⟨hv1,hv2,hv3,hv4⟩:=HV.out
  refine Vr.app (HOT2.out.below hba) (g:=W8.heap.size) (c:=L.length) (l:=L) ?_ hv1 (own_below hv2 hba) hv3 (fun j l hj=>?_) ?_ ?_
  ·rw[hRl]
   exact own_below (Y6 HOWN.out oq) hba
  ·obtain⟨g2,c2,h5,h6⟩:=hv4 j l hj
   exact⟨g2,c2,h5,own_below h6 hba⟩
  ·rw[hRl,HNL.out.1]
   exact HO4.out
  rw[HNL.out.1]
  exact HB4.out
 obtain rfl:i=f.ins.length:=oq
 have ix1:¬(f.ins.length:Int)<(f.ins.length:Int):=oq
 have HLO:=hid hot.low
 have HSb:=hid (HSV.out W7 ((HB6.out).trans (hot.low.mono hs6)) (Ud f inl u1 f.ins.length) oa oc hot.rows 100000 (ZbE HIN.out.2 HU.out.1.2 _) u2)
 rw[HER.out.2] at HSb
 rw[hnl] at HSb ⊢
 clear hot HOT hnl HINS hnli
 go_upto_region 25 with (go_at_call 9;refine HSb.out.mono ?_;rintro x w10 ⟨⟨s2,sa2,sc2,rfl,hsl2,hsx2⟩,hb10⟩;have HSY:=hid hsx2;have HB10:=hid hb10;have hs10:=hb10.size;clear hb10 hsx2)
 clear y0 y1 y2 y3 yf HSb
 obtain⟨W10,rfl⟩:∃W10:World,W10=w10:=⟨_,rfl⟩
 have HLW:=hid (HLO.out.trans (HB10.out.mono HLO.out.size))
 have HEND:=hid (HB5.out.trans ((HB6.out.trans (HLW.out.mono hs6)).mono HB5.out.size))
 by_cases he0:er=0
 ·subst he0
  have HRW:=hid (show ∃r,s++r=s2∧Row SdR 4 W10 s sa∧Row SdR 4 W10 s2 sa2 from by
   obtain⟨hs1,hr1⟩:=HSX.out rfl
   obtain⟨hs2,hr2⟩:=HSY.out rfl
   obtain⟨hri,_,lo,hlo⟩:=Kz HER.out.1
   have hR:=Va hri
   have hie:=ZbF hR (inl:=inl) HU.out.1.2
   have hlen:nds.length=f.nods.length:=HF4.out.2.len
   have hte:=uy hri hlen hlo (a:=u1) (b:=u2) ⟨HU.out.1.1,HU.out.2.2,HU.out.2.1.2⟩ hie
   obtain⟨r,hr⟩:=gG hR HU.out.2.2 HU.out.2.1.2 hie hte hs1 hs2
   exact⟨r,hr,hr1.below ZcN HLW.out,hr2⟩)
  obtain⟨r,hsr,hrw1,hrw2⟩:=HRW.out
  have HR1:=hid hrw1
  have HR2:=hid hrw2
  have HSR:=hid hsr
  obtain⟨n1,hn1⟩:∃n1,s.length=n1:=⟨_,rfl⟩
  obtain⟨n2,hn2⟩:∃n2,s2.length=n2:=⟨_,rfl⟩
  have hle:n1≤n2:=by rw[←hn1,←hn2,←hsr,Zw];omega
  have HN1:=hid hn1
  have HN2:=hid hn2
  rw[hn1] at hsl
  rw[hn2] at hsl2
  rw[hn1,hn2]
  clear hrw1 hrw2 hsr hn1 hn2 HRW
  go_wp2
  go_loopw [20] (fun s20 wr=>Hid (∃k:Nat,s20=.int .i64 (k:Int)∧k≤n1∧Below W10.heap.size W10 wr)) (fun s _=>n1-(intOf s).toNat)
  case atStart=>exact⟨0,rfl,Zk _,Zg _ _⟩
  obtain⟨W11,rfl⟩:∃W11:World,W11=wr:=⟨_,rfl⟩
  obtain⟨k,rfl,hk,hbk⟩:=hrel.out
  clear hrel
  have HBK:=hid hbk
  by_cases hlt:k<n1
  ·have kl:(k:Int)<(n1:Int):=oq
   have kl2:¬(k:Int)≥(n2:Int):=oq
   have kl3:(k:Int)<(n2:Int):=oq
   have k0:(0:Int)≤(k:Int):=oq
   obtain⟨b1,o1,rfl,hb1,e0,e1,e2,e3⟩:=SdRow.at HR1.out (t:=k) (by rw[HN1.out];exact hlt)
   obtain⟨b2,o2,rfl,hb2,g0,g1,g2,g3⟩:=SdRow.at HR2.out (t:=k) (by rw[HN2.out];omega)
   have hgk:s2[k]'(by rw[HN2.out];omega)=s[k]'(by rw[HN1.out];exact hlt):=by
    have h1:s2[k]?=s[k]?:=by rw[←HSR.out,List.getElem?_append_left (by rw[HN1.out];exact hlt)]
    rw[Ze (by rw[HN2.out];omega),Ze (by rw[HN1.out];exact hlt)] at h1
    exact Option.some.inj h1
   rw[hgk] at g0 g1 g2 g3
   obtain⟨⟨xt,xn,xd,xv⟩,hx⟩:∃x,s[k]'(by rw[HN1.out];exact hlt)=x:=⟨_,rfl⟩
   rw[hx] at e0 e1 e2 e3 g0 g1 g2 g3
   simp only at e0 e1 e2 e3 g0 g1 g2 g3
   have E0:=(hbk.cell (p:=⟨b1,_,none⟩) hb1).trans e0
   have E1:=(hbk.cell (p:=⟨b1,_,none⟩) hb1).trans e1
   have E2:=(hbk.cell (p:=⟨b1,_,none⟩) hb1).trans e2
   have E3:=(hbk.cell (p:=⟨b1,_,none⟩) hb1).trans e3
   have G0:=(hbk.cell (p:=⟨b2,_,none⟩) hb2).trans g0
   have G1:=(hbk.cell (p:=⟨b2,_,none⟩) hb2).trans g1
   have G2:=(hbk.cell (p:=⟨b2,_,none⟩) hb2).trans g2
   have G3:=(hbk.cell (p:=⟨b2,_,none⟩) hb2).trans g3
   clear e0 e1 e2 e3 g0 g1 g2 g3 hgk hx hbk
   go_upto_region 30 with fail
   go_still kq
   change Exit.then _ _ Exit.normal _ W11.drew
   go_wp2
   exact⟨hid ⟨k+1,by go_num,hlt,HBK.out.drew⟩,by simp[intOf];omega⟩
  have kl:¬(k:Int)<(n1:Int):=oq
  clear hbk
  go_wp2
  exact Zl (v:=.bool true) (by simp only[results,Tryz.results4];go_simp) rfl ⟨rfl,HEND.out.trans (HBK.out.mono HEND.out.size)⟩
 have hne:(er != 0)=true:=bne_iff_ne.2 he0
 have hee:(er == er)=true:=beq_self_eq_true er
 go_wp2
 exact Zl (v:=.bool true) (by simp only[results,Tryz.results4];go_simp) rfl ⟨rfl,HEND.out⟩
end Go.Proofs.YtlhlcdjiafdoeaaGreatDoor.syn
