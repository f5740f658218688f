/-
  Parts of the proof: Gath5, Gath6, Chk1, Chk2, Chk3.
-/
import Derived.Test.YtgigilkpndhddaaGreatDoorQ01
import Derived.Test.YtgigilkpndhddaaGreatDoorQ10
import Derived.Test.YtgigilkpndhddaaGreatDoorQ11
import Derived.Test.YtgigilkpndhddaaGreatDoorQ14
namespace Go.Proofs.YtgigilkpndhddaaGreatDoor.syn
set_option linter.unusedVariables false
set_option linter.unusedSimpArgs false
set_option linter.unnecessarySimpa false
set_option maxRecDepth 100000
set_option maxHeartbeats 16000000
open Go.RowKit
theorem GW.pop {W1 w:World} {gb mb nn g co:Nat} {stk0:List SE} {s:SE} {vn:Value} (h:GW W1 gb mb nn (stk0++[s]) w) (hg:w.heap[gb]?=some (Xk vn (.slice (some ⟨g,0,none⟩) (stk0.length+1) co) mb)) :
  GW W1 gb mb nn stk0 (w.setCell ⟨gb,1,none⟩ (.slice (some ⟨g,0,none⟩) stk0.length co)):=by
 obtain⟨⟨xs,hon,hnm⟩,hoo⟩:=VA h hg
 have hl:(stk0++[s]).length=stk0.length+1:=by simp
 rw[hl,QA] at hoo
 obtain⟨arr,clock,hmm,_⟩:=id h.map
 have hgm:mb≠gb:=fun e=>by rw[←e,hmm] at hg;cases hg
 have hgl:=Zb hg
 have hlow:=h.low.size
 have hgb:=h.hgb
 have hk:∀k,k≠gb→(w.setCell ⟨gb,1,none⟩ (.slice (some ⟨g,0,none⟩) stk0.length co)).heap[k]?=w.heap[k]?:=fun k hk=>heap_setCell_other _ _ _ _ hk
 refine⟨⟨h.low.os,h.low.tape,h.low.output,by simpa [World.setCell] using hlow,fun k hk1=>(hk k oq).trans (h.low.block k hk1)⟩,h.hgb,h.hmb,⟨vn,_,xs,jT hg _,?_,hnm,?_⟩,h.map.keep (hk mb hgm) (fun _ h=>h),fun x hx=>h.stk x (List.mem_append_left _ hx)⟩
 ·exact YW hon fun k hk1=>hk k fun e=>Xn hon hg (by decide) (by rw[←e];exact hk1.symm)
 have h1:w.ownsRow W1.heap.size 289 3 (.slice (some ⟨g,0,none⟩) stk0.length co) stk0.length (VH stk0):=by
  refine⟨Q7 _,?_⟩
  rcases hoo.2 with ⟨h1,_⟩|⟨g2,cap2,cur,h1,h2,h3,h4,h5,h6,h7⟩
  ·cases h1
  injection h1 with h1 h1b h1c;injection h1 with h1;injection h1 with h1
  subst h1;subst h1c
  refine .inr ⟨g,co,cur,rfl,h2,h3,oq,h5,h6,?_⟩
  have:=Z3 (List.take (stk0.length*3)) h7
  rw[List.take_take,Nat.min_eq_left oq] at this
  rw[this,List.take_append_of_le_length (by rw[Q7];exact Zc _),List.take_of_length_le (by rw[Q7];exact Zc _)]
 exact YW h1 fun k hk1=>hk k fun e=>Xn h1 hg (by decide) (by rw[←e];exact hk1.symm)
theorem Zcn {W1 w w3:World} {gb mb nn:Nat} {stk:List SE} {vn vo:Value} (h:GW W1 gb mb nn stk w) (hg:w.heap[gb]?=some (Xk vn vo mb)) (hu:Upon mb w w3) (hm:J4 w3 mb (Gc W1) (PcV nn)):GW W1 gb mb nn stk w3∧w3.heap[gb]?=some (Xk vn vo mb):=by
 obtain⟨arr,clock,hmm,_⟩:=id h.map
 have hk:∀k,k<w.heap.size→k≠mb→w3.heap[k]?=w.heap[k]?:=fun k hk hne=>hu.block k hk hne
 have hlow:=h.low.size
 have hg3:w3.heap[gb]?=some (Xk vn vo mb):=(hk gb (Zb hg) (fun e=>by rw[e,hmm] at hg;cases hg)).trans hg
 obtain⟨⟨xs,hon,hnm⟩,hoo⟩:=VA h hg
 have ho:∀{e:TypeId} {size n:Nat} {v:Value} {xs:List Value},w.ownsRow W1.heap.size e size v n xs→w3.ownsRow W1.heap.size e size v n xs:=fun h=>YW h fun k hk2=>hk k (h.lt k hk2).2 (fun e=>Vy h (b:=mb) (fun cur e2=>by rw[hmm] at e2;cases e2) (by rw[←e];exact hk2))
 exact⟨⟨⟨hu.os.trans h.low.os,hu.tape.trans h.low.tape,hu.output.trans h.low.output,Zm hlow hu.size,fun k hk1=>(hk k oq (by have:=h.hmb;omega)).trans (h.low.block k hk1)⟩,h.hgb,h.hmb,⟨vn,vo,xs,hg3,ho hon,hnm,ho hoo⟩,hm,h.stk⟩,hg3⟩
theorem qM {W1 w:World} {gb mb nn:Nat} {stk0:List SE} {s:SE} (h:GW W1 gb mb nn (stk0++[s]) w) (hn:nn≤60000000000) (hso:stk0.length≤900) (heq:s.next=s.e.args.len) :
  Calls Tryz.prog 181 #[.pointer (some ⟨gb,0,none⟩)] w fun x w'=>x=.returned (.tuple #[])∧GW W1 gb mb nn stk0 w':=by
 obtain⟨vn,g,co,xs,hla,hon,hnm,hoo⟩:=last_at h
 obtain⟨hex,hnx,hfr,har⟩:=h.stk s (by simp)
 have HLA:=hid hla
 obtain⟨ln,cn,hvn⟩:∃ad cn,vn=.slice ad nn cn:=XT hon
 subst hvn
 obtain⟨⟨g0,g1,g2⟩,gf⟩:=XB hla.gbk
 have hc0:=hla.c0
 have hc1:=hla.c1
 have hc2:=hla.c2
 have hcap:=hla.cap
 obtain⟨ad,cap,c4,hargs⟩:=hex.c4
 have hlen:=hex.len
 have d4:=(h.low.cell (p:=⟨s.b,s.o+4,none⟩) hex.lt).trans c4
 have HGW:=hid h
 have HEX:=hid hex
 obtain⟨m,hmm⟩:∃m,stk0.length=m:=⟨_,rfl⟩
 rw[hmm] at hc0 hc1 hc2 g1 hso hcap
 obtain⟨sb,so,snx,sfr,se⟩:=s
 simp only at *
 subst heq
 have hgf:=gf 1
 have hw0:IntKind.i64.wrap (m:Int)=(m:Int):=ZK _ oq
 have hm0:(0:Int)≤(m:Int):=oq
 have hm1:(m:Int)<(m:Int)+1:=oq
 have hm2:(m:Int)≤(co:Int):=oq
 clear hla hon hnm hoo hex hargs h c4 har gf
 go_enter Tryz.func181,Tryz.ntmps181
 go_wp2
 go_still_tail 11,kq
 change wpList _ _ _ _ _ (w).drew;have hhwa:(w).drew.heap=(w).heap:=rfl;have hbwa:Below (w).heap.size (w) (w).drew:=(Zg _ _).drew;have Hwa:=hid (Zh hhwa hbwa);clear hhwa hbwa;change (w).drew.cell? _=_ at g0 g1 g2 hc0 hc1 hc2 d4;change (w).drew.frozen? _=_ at hgf;generalize (w).drew=wa at *
 go_wp2
 go_still_tail 12,kq
 change wpList _ _ _ _ _ (wa).drew;have hhwb:(wa).drew.heap=(wa).heap:=rfl;have hbwb:Below (wa).heap.size (wa) (wa).drew:=(Zg _ _).drew;have Hwb:=hid (Zh hhwb hbwb);clear hhwb hbwb;change (wa).drew.cell? _=_ at g0 g1 g2 hc0 hc1 hc2 d4;change (wa).drew.frozen? _=_ at hgf;generalize (wa).drew=wb at *
 go_wp2
 go_still_tail 18,kq
 change wpList _ _ _ _ _ (wb).drew;have hhwc:(wb).drew.heap=(wb).heap:=rfl;have hbwc:Below (wb).heap.size (wb) (wb).drew:=(Zg _ _).drew;have Hwc:=hid (Zh hhwc hbwc);clear hhwc hbwc;change (wb).drew.cell? _=_ at g0 g1 g2 hc0 hc1 hc2 d4;change (wb).drew.frozen? _=_ at hgf;generalize (wb).drew=wc at *
 have hbc:Below w.heap.size w wc∧wc.heap=w.heap:=by
  have h1:=Hwa.out
  have h2:=Hwb.out
  have h3:=Hwc.out
  exact⟨h1.2.trans ((h2.2.trans (h3.2.mono (by rw[h2.1];exact Zc _))).mono (by rw[h1.1];exact Zc _)),h3.1.trans (h2.1.trans h1.1)⟩
 have HGC:=hid (HGW.out.same hbc.1)
 have HBC:=hid hbc
 clear hbc Hwa Hwb Hwc hc0 hc1 hc2 d4 g0 g1 g2 hgf
 have g0:wc.cell? ⟨gb,0,none⟩=some (.slice ln nn cn):=by have:=(XB HLA.out.gbk).1.1;simpa [World.cell?,HBC.out.2] using this
 go_wp2_with (at_mapUpdate;refine UY UB _ rfl _ _ _ rfl mb (Gc W1) (PcV nn) _ (.agg #[.int .i64 (sfr:Int),.int .i64 (nn:Int)]) rfl rfl rfl HGC.out.map (fun v hv=>Gc.ptr HGC.out.low v hv) ⟨sb,so,_,rfl,HEX.out⟩ ⟨sfr,nn,rfl,hfr,Zc _⟩ ?_;intro w3 hu3 hs3 hm3;have HU3:=hid hu3;have HM3:=hid hm3;clear hu3 hm3)
 have hgc:wc.heap[gb]?=some (Xk (.slice ln nn cn) (.slice (some ⟨g,0,none⟩) (stk0.length+1) co) mb):=by rw[HBC.out.2];exact HLA.out.gbk
 obtain⟨hgw3,hg3⟩:=Zcn HGC.out hgc HU3.out HM3.out
 have HG3:=hid hg3
 have HGW3:=hid hgw3
 obtain⟨⟨q0,q1,q2⟩,qf⟩:=XB hg3
 have qf1:=qf 1
 rw[hmm] at q1
 clear hgc hgw3 hg3 g0 qf HGC HBC HU3 HM3 HGW
 go_still_tail 12,kq
 change wpList _ _ _ _ _ (w3).drew;have hhwd:(w3).drew.heap=(w3).heap:=rfl;have hbwd:Below (w3).heap.size (w3) (w3).drew:=(Zg _ _).drew;have Hwd:=hid (Zh hhwd hbwd);clear hhwd hbwd;change (w3).drew.cell? _=_ at q0 q1 q2;change (w3).drew.frozen? _=_ at qf1;generalize (w3).drew=wd at *
 go_wp2
 refine bodyPost_end (v:=.tuple #[]) ?_ rfl ?_
 ·simp[results,Tryz.results181]
 have hgd:wd.heap[gb]?=some (Xk (.slice ln nn cn) (.slice (some ⟨g,0,none⟩) (stk0.length+1) co) mb):=by rw[Hwd.out.1];exact HG3.out
 have:=GW.pop (HGW3.out.same Hwd.out.2) hgd
 rw[hmm] at this
 exact⟨rfl,this⟩
structure GS (W1:World) (gb mb N:Nat) (stk:List SE) (w:World):Prop where
 ex:∃nn p,GW W1 gb mb nn stk w∧nn≤T3 p∧p+QP stk≤N∧stk.length≤p
theorem eX (p:Nat):T3 (p+3)=2*T3 p:=rfl
theorem GS.one {W1 w:World} {gb mb N nn p m:Nat} {stk:List SE} {e:PE} (h:GW W1 gb mb m stk w) (hn:nn≤T3 p) (hm:m≤nn+1∨(e.args.len≠0∧m≤2*nn)) (har:Uc e) (hp:p+e.sz+QP stk≤N) (hs:stk.length≤p):GS W1 gb mb N stk w:=by
 refine⟨m,p+e.sz,h,?_,oq,oq⟩
 rcases hm with hm|⟨h0,hm⟩
 ·have h1:=E1 p
  have h2:T3 (p+1)≤T3 (p+e.sz):=Kh (by unfold PE.sz;omega)
  omega
 have h1:=eX p
 have h2:T3 (p+3)≤T3 (p+e.sz):=Kh (by have:=har.three h0;omega)
 omega
def Zdg (w:World) (x:Ending) (w':World):Prop:=(∃ln nn cn xs,x=.returned (.slice ln nn cn)∧w'.ownsRow w.heap.size 88 6 (.slice ln nn cn) nn xs∧NmR xs nn∧nn≤60000000000)∧Below w.heap.size w w'
def Ej (stk:List SE):Nat:=2*QP stk+stk.length
theorem least {P:Nat→Prop} (h:∃n,P n):∃n,P n∧∀m,P m→n≤m:=by
 obtain⟨n,hn⟩:=h
 induction n using Nat.strongRecOn with
 | _ n ih =>
  by_cases hx:∃m,m<n∧P m
  ·obtain⟨m,h1,h2⟩:=hx
   exact ih m h1 h2
  exact⟨n,hn,fun m hm=>Nat.le_of_not_lt fun hlt=>hx ⟨m,hlt,hm⟩⟩
def Za4 (W1:World) (gb mb N:Nat) (w:World) (n:Nat):Prop:=∃stk,GS W1 gb mb N stk w∧Ej stk=n
noncomputable def muG (W1:World) (gb mb N:Nat) (w:World):Nat:=@Classical.epsilon Nat ⟨0⟩ (fun n=>Za4 W1 gb mb N w n∧∀m,Za4 W1 gb mb N w m→n≤m)
theorem KE {W1:World} {gb mb N:Nat} {w:World} (h:∃stk,GS W1 gb mb N stk w):Za4 W1 gb mb N w (muG W1 gb mb N w)∧∀m,Za4 W1 gb mb N w m→muG W1 gb mb N w≤m :=
 Classical.epsilon_spec (least (by obtain⟨stk,h⟩:=h;exact⟨_,stk,h,rfl⟩))
theorem GS.child {W1 w:World} {gb mb N nn p:Nat} {stk0:List SE} {s:SE} {e:PE} (hn:nn≤T3 p) (hp:p+QP (stk0++[s])≤N) (hs:(stk0++[s]).length≤p) (har:Uc e) (hat:s.e.args.at s.next=some e) (hlt:s.next<s.e.args.len)
  (hw:(∃m,(m≤nn+1∨(e.args.len≠0∧m≤2*nn))∧GW W1 gb mb m (stk0++[{ s with next:=s.next+1 }]) w)∨∃b o,GW W1 gb mb nn (stk0++[{ s with next:=s.next+1 }]++[⟨b,o,0,nn,e⟩]) w) :
  ∃stk,GS W1 gb mb N stk w∧Ej stk<Ej (stk0++[s]):=by
 obtain⟨e2,h1,h2⟩:=s.e.args.at_some s.next hlt
 obtain rfl:e2=e:=Option.some.inj (h1.symm.trans hat)
 have hr:QP (stk0++[s])=QP stk0+s.e.args.szFrom s.next:=by rw[Ji];simp[QP]
 have hr2:QP (stk0++[{ s with next:=s.next+1 }])=QP stk0+s.e.args.szFrom (s.next+1):=by rw[Ji];simp[QP]
 have hl:(stk0++[s]).length=stk0.length+1:=by simp
 have hl2:(stk0++[{ s with next:=s.next+1 }]).length=stk0.length+1:=by simp
 have hz:e2.sz=e2.args.sz+1:=rfl
 rcases hw with ⟨m,hm,hw⟩|⟨b,o,hw⟩
 ·refine⟨_,GS.one hw hn hm har oq oq,?_⟩
  unfold Ej
  omega
 have hr3:QP (stk0++[{ s with next:=s.next+1 }]++[⟨b,o,0,nn,e2⟩])=QP stk0+s.e.args.szFrom (s.next+1)+e2.args.sz:=by rw[Ji,hr2];simp[QP,PL.szFrom0]
 have hl3:(stk0++[{ s with next:=s.next+1 }]++[(⟨b,o,0,nn,e2⟩:SE)]).length=stk0.length+2:=by simp
 refine⟨_,⟨nn,p+1,hw,Zm hn (Kh (Nat.le_succ _)),oq,oq⟩,?_⟩
 unfold Ej
 omega
theorem G9 {w:World} {e:PE} {ad:Option Addr} {cap:Nat} (h:AE w e ad cap) (hnf:∀b o,ad=some ⟨b,o,none⟩→NF w e.args b o) (har:Uc e) (hsz:e.sz≤100) :
  Calls Tryz.prog 174 #[ev e ad cap] w (Zdg w):=by
 obtain⟨W1,hW1⟩:∃W1,W1=w.alloc (.cells #[.int .i64 e.k,.string e.nm,.int .i64 e.n,.int .i64 e.d,.slice ad e.args.len cap,.int .i64 e.a] 88):=⟨_,rfl⟩
 have hb1:Below w.heap.size w W1:=by rw[hW1];exact(Zg _ _).alloc (Zc _) _
 have hs1:W1.heap.size=w.heap.size+1:=by rw[hW1];simp
 have hex:Jl W1 w.heap.size 0 e:=by
  have hn:=Yp w (.cells #[.int .i64 e.k,.string e.nm,.int .i64 e.n,.int .i64 e.d,.slice ad e.args.len cap,.int .i64 e.a] 88)
  rw[←hW1] at hn
  obtain⟨⟨c0,c1,c2,c3,c4,c5⟩,cf⟩:=YZ hn
  refine⟨oq,cf 0,c0,c1,c2,c3,c5,⟨ad,cap,c4,?_⟩,Zm h.len.1 h.len.2⟩
  rcases h.args with h0|⟨b,o,rfl,hlt,hac⟩
  ·exact .inl h0
  exact .inr ⟨b,o,rfl,oq,hac.below hb1 _ _ _ hlt,(hnf b o rfl).below hb1 _ _ _ hlt hac⟩
 have hgw:GW W1 (w.heap.size+1+1) (w.heap.size+1) 0 [] ((W1.alloc (.map #[] 0)).alloc (Obj.cells #[.slice none 0 0,.slice none 0 0,.map (some (w.heap.size+1))] 276)):=by
  have hm:=J4.new W1 (Gc W1) (PcV 0)
  have hs2:(W1.alloc (.map #[] 0)).heap.size=w.heap.size+1+1:=by simp[hs1]
  refine⟨((Zg _ _).alloc (Zc _) _).alloc (by simp) _,oq,oq,⟨.slice none 0 0,.slice none 0 0,[],?_,Yf _ _ _ _,NmR.nil,Yf _ _ _ _⟩,?_,fun s hs=>(by cases hs)⟩
  ·have:=Yp (W1.alloc (.map #[] 0)) (Obj.cells #[.slice none 0 0,.slice none 0 0,.map (some (w.heap.size+1))] 276)
   rw[hs2] at this
   exact this
  rw[hs1] at hm
  exact hm.keep (Za _ _ _ (by rw[hs2];omega)) (fun _ h=>h)
 have HMT:=hid (zP hgw hex oq (by simp) har)
 have HB1:=hid hb1
 have HS:=hid hsz
 rw[hW1] at HMT
 obtain⟨k,nm,n,d,args,a⟩:=e
 unfold ev
 simp only at hW1 HMT ⊢
 have HW1:=hid hW1
 have hmk:=fun w=>run_makeMap (P:=Tryz.prog) 273 w
 clear h hnf hex hgw hb1 hW1 hsz
 have HAR:=hid har
 clear har
 go_enter Tryz.func174,Tryz.ntmps174
 go_wp2_with (go_at_call 180;refine HMT.out.mono ?_;rintro x w4 ⟨rfl,h4⟩;have H4:=hid h4;clear h4)
 clear HMT
 have hgs:∃stk,GS W1 (w.heap.size+1+1) (w.heap.size+1) 100 stk w4:=by
  have h4:=H4.out
  rw[←HW1.out] at h4
  have hz:(⟨k,nm,n,d,args,a⟩:PE).sz=args.sz+1:=rfl
  have hsz:=HS.out
  rcases h4 with ⟨m,hm,h4⟩|h4
  ·exact⟨[],GS.one (nn:=0) (p:=0) h4 (Zk _) hm HAR.out (by simp[QP];omega) (by simp)⟩
  exact⟨_,⟨0,1,h4,Zk _,by simp[QP,PL.szFrom0];omega,by simp⟩⟩
 have HGS:=hid hgs
 clear hgs H4 HW1 HAR HS hmk
 go_loopw [] (fun wr=>Hid (∃stk,GS W1 (w.heap.size+1+1) (w.heap.size+1) 100 stk wr)) (fun wr=>muG W1 (w.heap.size+1+1) (w.heap.size+1) 100 wr)
 case atStart=>exact HGS.out
 have hgs:=hrel.out
 clear hrel
 obtain⟨⟨stk,hgs,hms⟩,hmin⟩:=KE hgs
 obtain⟨nn,p,hgw,hnn,hp,hsl⟩:=hgs.ex
 have htop:nn≤60000000000:=Zm hnn (Zb4 oq)
 obtain⟨vn,vo,xs,hg,hon,hnm,hoo⟩:=hgw.sta
 obtain⟨ln,cn,rfl⟩:=XT hon
 obtain⟨lo,co,rfl⟩:=XT hoo
 obtain⟨⟨g0,g1,g2⟩,gf⟩:=XB hg
 have HON:=hid hon
 have HNM:=hid hnm
 have HGW:=hid hgw
 have HMS:=hid hms
 clear hon hnm hgw hg hms hmin hgs hoo
 rcases List.eq_nil_or_concat stk with rfl|⟨stk0,s,hst⟩
 ·simp only[Zw] at g1
  go_wp2
  go_ret
  refine⟨⟨ln,nn,cn,xs,rfl,HON.out.mono oq,HNM.out,htop⟩,HB1.out.trans (HGW.out.low.mono oq)⟩
 rw[List.concat_eq_append] at hst
 subst hst
 have hlen:(stk0++[s]).length=stk0.length+1:=by simp
 rw[hlen] at g1 hsl
 have hpos:(0:Int)<(stk0.length:Int)+1:=oq
 obtain⟨hex,hnx,hfr,har⟩:=HGW.out.stk s (by simp)
 have hst0:stk0.length≤900:=oq
 by_cases hlt:s.next<s.e.args.len
 ·have HST:=hid (vG HGW.out htop hst0 hlt)
  have HFIN:=hid (fun(w':World) (e:PE) (hat:s.e.args.at s.next=some e) (hw)=>GS.child (W1:=W1) (gb:=w.heap.size+1+1) (mb:=w.heap.size+1) (N:=100) (w:=w') hnn hp (by rw[hlen];exact hsl) (Ar2.at _ _ _ har.2 hat) hat hlt hw)
  clear hex har hnn hp
  go_wp2_with (go_at_call 181;refine HST.out.mono ?_;rintro x w5 ⟨rfl,e,hat,h5⟩;have H5:=hid (HFIN.out w5 e hat h5);clear h5 hat)
  obtain⟨stk',hg5,hm5⟩:=H5.out
  refine⟨⟨stk',hg5⟩,?_⟩
  have h6:=(KE ⟨stk',hg5⟩).2 _ ⟨stk',hg5,rfl⟩
  have h7:=HMS.out
  omega
 have HST:=hid (qM HGW.out htop hst0 oq)
 have hr:QP (stk0++[s])=QP stk0+s.e.args.szFrom s.next:=by rw[Ji];simp[QP]
 have HFIN:=hid (fun(w':World) (hw:GW W1 (w.heap.size+1+1) (w.heap.size+1) nn stk0 w')=>(⟨nn,p,hw,hnn,oq,oq⟩:∃nn p,GW W1 (w.heap.size+1+1) (w.heap.size+1) nn stk0 w'∧nn≤T3 p∧p+QP stk0≤100∧stk0.length≤p))
 have HR:=hid hr
 clear hex har hnn hp hr
 go_wp2_with (go_at_call 181;refine HST.out.mono ?_;rintro x w5 ⟨rfl,h5⟩;have H5:=hid (HFIN.out w5 h5);clear h5)
 refine⟨⟨stk0,⟨H5.out⟩⟩,?_⟩
 have h6:=(KE (W1:=W1) (gb:=w.heap.size+1+1) (mb:=w.heap.size+1) (N:=100) (w:=w5) ⟨stk0,⟨H5.out⟩⟩).2 _ ⟨stk0,⟨H5.out⟩,rfl⟩
 have h7:=HMS.out
 have h8:=HR.out
 unfold Ej at h6 h7
 simp only[hlen] at h7
 omega
inductive TT where
 | unk
 | ok (p f:Int)
 | bad (a e:Int)
def cvv (c:Int × Int):Value:=.agg #[.int .i64 c.1,.int .i64 c.2]
def TT.v:TT→Value
 | .unk=>.agg #[.int .i64 0,.int .i64 0,.bool false,.int .i64 0,.int .i64 0]
 | .ok p f=>.agg #[.int .i64 p,.int .i64 f,.bool true,.int .i64 0,.int .i64 0]
 | .bad a e=>.agg #[.int .i64 0,.int .i64 0,.bool false,.int .i64 a,.int .i64 e]
abbrev Env:Type:=ByteArray→Option (Int × Int)
def Xy (L:List (ByteArray × Value)) (env:Env):Prop:=∀nm,Y0 nm L=(env nm).map cvv
def XR (env:Env) (k:Int) (nm:ByteArray) (n d a:Int) (src:TT):TT :=
 if k=1 then match env nm with|some c=>.ok c.1 c.2|none=>.unk
 else match src with
  | .ok p f=>if k=2 then .ok p f else if (clock.Yx p f k n d).2.2=0 then .ok (clock.Yx p f k n d).1 (clock.Yx p f k n d).2.1 else .bad a (clock.Yx p f k n d).2.2
  | .unk=>.unk
  | .bad a e=>.bad a e
def Xo (env:Env):PL→TT
 | .nil=>.unk
 | .cons k nm n d args a tl=>match XR env k nm n d a (Xo env args) with
  | .unk=>Xo env tl
  | .ok p f=>.ok p f
  | .bad a e=>.bad a e
def Qd (env:Env) (e:PE):TT:=XR env e.k e.nm e.n e.d e.a (Xo env e.args)
def QC (env:Env) (L:List (ByteArray × Value)) (e:PE):Prop:=∀(w:World) (ad:Option Addr) (cap mb:Nat),AE w e ad cap→YG w mb L →
 Calls Tryz.prog 89 #[.map (some mb),.agg #[.int .i64 e.k,.string e.nm,.int .i64 e.n,.int .i64 e.d,.slice ad e.args.len cap,.int .i64 e.a]] w fun x w'=>x=.returned (Qd env e).v∧Below w.heap.size w w'
def Jr (env:Env) (L:List (ByteArray × Value)) (l:PL):Prop:=∀(w:World) (ad:Option Addr) (cap mb:Nat),AS w l ad→l.len≤cap→cap≤9223372036854775807→YG w mb L →
 Calls Tryz.prog 124 #[.map (some mb),.slice ad l.len cap] w fun x w'=>x=.returned (Xo env l).v∧Below w.heap.size w w'
theorem um {env:Env} {L:List (ByteArray × Value)} (hE:Xy L env) (e:PE) (hF:Jr env L e.args):QC env L e:=by
 intro w ad cap mb hae hM
 obtain⟨k,nm,n,d,args,a⟩:=e
 have hlen:=hae.len
 simp only at hlen hF ⊢
 unfold Jr at hF
 have HA:=hid hae
 have HM:=hid hM
 have HF:=hid hF
 clear hae hM hF
 obtain⟨r,hr⟩:∃r,Qd env ⟨k,nm,n,d,args,a⟩=r:=⟨_,rfl⟩
 rw[hr]
 unfold Qd at hr
 simp only at hr
 by_cases hk1:k=1
 ·subst hk1
  unfold XR at hr;rw[Z2 rfl] at hr
  cases he:env nm with
  | none =>
   rw[he] at hr
   have hg:Y0 nm L=none:=by rw[hE nm,he];rfl
   subst hr
   clear hE he
   have HG:=hid hg
   clear hg
   go_enter Tryz.func89,Tryz.ntmps89
   go_wp2_with (at_lookup;refine Y3 Xc _ rfl _ _ rfl mb L nm rfl rfl (HM.out.below bq) HG.out ?_)
   refine Zl (v:=TT.unk.v) (by simp only[results,Tryz.results89];go_simp;try rfl) rfl ⟨?_,?_⟩
   ·rfl
   exact bq
  | some c =>
   rw[he] at hr
   have hg:Y0 nm L=some (.agg #[.int .i64 c.1,.int .i64 c.2]):=by rw[hE nm,he];rfl
   obtain⟨c1,c2⟩:=c
   subst hr
   clear hE he
   have HG:=hid hg
   clear hg
   go_enter Tryz.func89,Tryz.ntmps89
   go_wp2_with (at_lookup;refine Xz Xc _ rfl _ _ rfl mb L nm _ rfl rfl (HM.out.below bq) HG.out ?_)
   refine Zl (v:=(TT.ok c1 c2).v) (by simp only[results,Tryz.results89];go_simp;try rfl) rfl ⟨?_,?_⟩
   ·rfl
   exact bq
 have hk1':(k == 1)=false:=ZY.2 hk1
 unfold XR at hr;rw[Z1 hk1] at hr
 clear hE
 cases hs:Xo env args with
 | unk =>
  rw[hs] at hr HF
  simp only at hr
  subst hr
  simp only[TT.v] at HF
  clear hk1
  by_cases hk2:k=2
  ·subst hk2
   go_enter Tryz.func89,Tryz.ntmps89
   repeat' (first|(go_at_call 124;(with_reducible refine(HF.out _ _ _ _ (HA.out.args.below bq) HA.out.len.1 HA.out.len.2 (HM.out.below bq)).mono ?_);rintro x w2 ⟨rfl,hb2⟩;obtain⟨hc2,hf2⟩:=Yu hb2;have a2:w.heap.size<w2.heap.size:=Yr hb2 oq;have a3:w.heap.size+1<w2.heap.size:=Yr hb2 oq)|go_values|go_skip|go_guarded|go_step|go_upon|(simp only[Int.not_lt,Int.not_le] at *;go_simp)|(go_values<;>(try go_simp))|(go_ite<;>go_prune<;>(try go_simp))|(split<;>(first|(rename_i hx;exact(hx _ rfl).elim)|go_prune)))
   refine Zl (v:=TT.unk.v) (by simp only[results,Tryz.results89];go_simp;try rfl) rfl ⟨?_,?_⟩
   ·rfl
   exact bq
  have hk2':(k == 2)=false:=ZY.2 hk2
  clear hk2
  go_enter Tryz.func89,Tryz.ntmps89
  repeat' (first|(go_at_call 124;(with_reducible refine(HF.out _ _ _ _ (HA.out.args.below bq) HA.out.len.1 HA.out.len.2 (HM.out.below bq)).mono ?_);rintro x w2 ⟨rfl,hb2⟩;obtain⟨hc2,hf2⟩:=Yu hb2;have a2:w.heap.size<w2.heap.size:=Yr hb2 oq;have a3:w.heap.size+1<w2.heap.size:=Yr hb2 oq)|go_values|go_skip|go_guarded|go_step|go_upon|(simp only[Int.not_lt,Int.not_le] at *;go_simp)|(go_values<;>(try go_simp))|(go_ite<;>go_prune<;>(try go_simp))|(split<;>(first|(rename_i hx;exact(hx _ rfl).elim)|go_prune)))
  refine Zl (v:=TT.unk.v) (by simp only[results,Tryz.results89];go_simp;try rfl) rfl ⟨?_,?_⟩
  ·rfl
  exact bq
 | bad a1 e1 =>
  rw[hs] at hr HF
  simp only at hr
  subst hr
  simp only[TT.v] at HF
  clear hk1
  by_cases hk2:k=2
  ·subst hk2
   go_enter Tryz.func89,Tryz.ntmps89
   repeat' (first|(go_at_call 124;(with_reducible refine(HF.out _ _ _ _ (HA.out.args.below bq) HA.out.len.1 HA.out.len.2 (HM.out.below bq)).mono ?_);rintro x w2 ⟨rfl,hb2⟩;obtain⟨hc2,hf2⟩:=Yu hb2;have a2:w.heap.size<w2.heap.size:=Yr hb2 oq;have a3:w.heap.size+1<w2.heap.size:=Yr hb2 oq)|go_values|go_skip|go_guarded|go_step|go_upon|(simp only[Int.not_lt,Int.not_le] at *;go_simp)|(go_values<;>(try go_simp))|(go_ite<;>go_prune<;>(try go_simp))|(split<;>(first|(rename_i hx;exact(hx _ rfl).elim)|go_prune)))
   refine Zl (v:=(TT.bad a1 e1).v) (by simp only[results,Tryz.results89];go_simp;try rfl) rfl ⟨?_,?_⟩
   ·rfl
   exact bq
  have hk2':(k == 2)=false:=ZY.2 hk2
  clear hk2
  go_enter Tryz.func89,Tryz.ntmps89
  repeat' (first|(go_at_call 124;(with_reducible refine(HF.out _ _ _ _ (HA.out.args.below bq) HA.out.len.1 HA.out.len.2 (HM.out.below bq)).mono ?_);rintro x w2 ⟨rfl,hb2⟩;obtain⟨hc2,hf2⟩:=Yu hb2;have a2:w.heap.size<w2.heap.size:=Yr hb2 oq;have a3:w.heap.size+1<w2.heap.size:=Yr hb2 oq)|go_values|go_skip|go_guarded|go_step|go_upon|(simp only[Int.not_lt,Int.not_le] at *;go_simp)|(go_values<;>(try go_simp))|(go_ite<;>go_prune<;>(try go_simp))|(split<;>(first|(rename_i hx;exact(hx _ rfl).elim)|go_prune)))
  refine Zl (v:=(TT.bad a1 e1).v) (by simp only[results,Tryz.results89];go_simp;try rfl) rfl ⟨?_,?_⟩
  ·rfl
  exact bq
 | ok p f =>
  rw[hs] at hr HF
  simp only at hr
  simp only[TT.v] at HF
  by_cases hk2:k=2
  ·subst hk2
   rw[Z2 rfl] at hr
   subst hr
   clear hk1
   go_enter Tryz.func89,Tryz.ntmps89
   repeat' (first|(go_at_call 124;(with_reducible refine(HF.out _ _ _ _ (HA.out.args.below bq) HA.out.len.1 HA.out.len.2 (HM.out.below bq)).mono ?_);rintro x w2 ⟨rfl,hb2⟩;obtain⟨hc2,hf2⟩:=Yu hb2;have a2:w.heap.size<w2.heap.size:=Yr hb2 oq;have a3:w.heap.size+1<w2.heap.size:=Yr hb2 oq)|go_values|go_skip|go_guarded|go_step|go_upon|(simp only[Int.not_lt,Int.not_le] at *;go_simp)|(go_values<;>(try go_simp))|(go_ite<;>go_prune<;>(try go_simp))|(split<;>(first|(rename_i hx;exact(hx _ rfl).elim)|go_prune)))
   refine Zl (v:=(TT.ok p f).v) (by simp only[results,Tryz.results89];go_simp;try rfl) rfl ⟨?_,?_⟩
   ·rfl
   exact bq
  have hk2':(k == 2)=false:=ZY.2 hk2
  rw[Z1 hk2] at hr
  have HP:=hid (fun w=>clock.UC p f k n d w)
  unfold clock.zU clock.Kd at HP
  generalize clock.Yx p f k n d=r at hr HP
  obtain⟨r1,r2,r3⟩:=r
  simp only at hr HP
  clear hk1 hk2
  by_cases h0:r3=0
  ·subst h0
   rw[Z2 rfl] at hr
   subst hr
   go_enter Tryz.func89,Tryz.ntmps89
   repeat' (first|(go_at_call 124;(with_reducible refine(HF.out _ _ _ _ (HA.out.args.below bq) HA.out.len.1 HA.out.len.2 (HM.out.below bq)).mono ?_);rintro x w2 ⟨rfl,hb2⟩;obtain⟨hc2,hf2⟩:=Yu hb2;have a2:w.heap.size<w2.heap.size:=Yr hb2 oq;have a3:w.heap.size+1<w2.heap.size:=Yr hb2 oq)|(go_at_call 77;(with_reducible refine(HP.out _).mono ?_);rintro x w3 ⟨rfl,hb3⟩;obtain⟨hc3,hf3⟩:=Yu hb3;have a4:w.heap.size<w3.heap.size:=Yr hb3 oq;have a5:w.heap.size+1<w3.heap.size:=Yr hb3 oq;have a6:w2.heap.size<w3.heap.size:=Yr hb3 oq)|go_values|go_skip|go_guarded|go_step|go_upon|(simp only[Int.not_lt,Int.not_le] at *;go_simp)|(go_values<;>(try go_simp))|(go_ite<;>go_prune<;>(try go_simp))|(split<;>(first|(rename_i hx;exact(hx _ rfl).elim)|go_prune)))
   refine Zl (v:=(TT.ok r1 r2).v) (by simp only[results,Tryz.results89];go_simp;try rfl) rfl ⟨?_,?_⟩
   ·rfl
   exact bq
  rw[Z1 h0] at hr
  subst hr
  have h0':(r3 == 0)=false:=ZY.2 h0
  clear h0
  go_enter Tryz.func89,Tryz.ntmps89
  repeat' (first|(go_at_call 124;(with_reducible refine(HF.out _ _ _ _ (HA.out.args.below bq) HA.out.len.1 HA.out.len.2 (HM.out.below bq)).mono ?_);rintro x w2 ⟨rfl,hb2⟩;obtain⟨hc2,hf2⟩:=Yu hb2;have a2:w.heap.size<w2.heap.size:=Yr hb2 oq;have a3:w.heap.size+1<w2.heap.size:=Yr hb2 oq)|(go_at_call 77;(with_reducible refine(HP.out _).mono ?_);rintro x w3 ⟨rfl,hb3⟩;obtain⟨hc3,hf3⟩:=Yu hb3;have a4:w.heap.size<w3.heap.size:=Yr hb3 oq;have a5:w.heap.size+1<w3.heap.size:=Yr hb3 oq;have a6:w2.heap.size<w3.heap.size:=Yr hb3 oq)|go_values|go_skip|go_guarded|go_step|go_upon|(simp only[Int.not_lt,Int.not_le] at *;go_simp)|(go_values<;>(try go_simp))|(go_ite<;>go_prune<;>(try go_simp))|(split<;>(first|(rename_i hx;exact(hx _ rfl).elim)|go_prune)))
  refine Zl (v:=(TT.bad a r3).v) (by simp only[results,Tryz.results89];go_simp;try rfl) rfl ⟨?_,?_⟩
  ·rfl
  exact bq
def TT.good:TT→Prop
 | .bad _ e=>e≠0
 | _=>True
theorem Gm {env:Env} {k:Int} {nm:ByteArray} {n d a:Int} {src:TT} (h:src.good):(XR env k nm n d a src).good:=by
 unfold XR
 split
 ·split<;>trivial
 cases src with
 | unk=>trivial
 | bad a e=>exact h
 | ok p f =>
  simp only
  split
  ·trivial
  split
  ·trivial
  assumption
theorem jg (env:Env):∀l:PL,(Xo env l).good:=by
 intro l
 induction l with
 | nil=>trivial
 | cons k nm n d args a tl ih1 ih2 =>
  have h:=Gm (env:=env) (k:=k) (nm:=nm) (n:=n) (d:=d) (a:=a) ih1
  unfold Xo
  generalize XR env k nm n d a (Xo env args)=t at h
  cases t with
  | unk=>exact ih2
  | ok p f=>trivial
  | bad a e=>exact h
theorem VE (env:Env) (e:PE):(Qd env e).good:=Gm (jg env e.args)
def X1 (wr:World) (ad:Option Addr) (l rest:PL) (i:Nat):Prop :=
 i+rest.len=l.len∧rest.sz≤l.sz∧(rest=.nil∨∃b o,ad=some ⟨b,o,none⟩∧b<wr.heap.size∧AC wr rest b (o+i*6))
theorem X1.start {w:World} {ad:Option Addr} {l:PL} (h:AS w l ad):X1 w ad l l 0:=by
 refine⟨oq,Zc _,?_⟩
 rcases h with h|⟨b,o,e,hb,h⟩
 ·exact .inl h
 exact .inr ⟨b,o,e,hb,by simpa using h⟩
theorem X1.below {w w':World} {ad:Option Addr} {l rest:PL} {i:Nat} (h:X1 w ad l rest i) (hb:Below w.heap.size w w'):X1 w' ad l rest i:=by
 obtain⟨h1,h2,h3⟩:=h
 refine⟨h1,h2,?_⟩
 rcases h3 with h3|⟨b,o,e,hlt,h3⟩
 ·exact .inl h3
 exact .inr ⟨b,o,e,Zd hlt hb.size,h3.below hb _ _ _ hlt⟩
theorem X1.tail {w:World} {ad:Option Addr} {l tl args:PL} {k n d a:Int} {nm:ByteArray} {i:Nat} (h:X1 w ad l (.cons k nm n d args a tl) i):X1 w ad l tl (i+1):=by
 obtain⟨h1,h2,h3⟩:=h
 refine⟨by simp only[PL.len] at h1;omega,by simp only[PL.sz] at h2;omega,?_⟩
 rcases h3 with h3|⟨b,o,e,hlt,h3⟩
 ·cases h3
 obtain⟨_,_,_,_,_,_,_,ht⟩:=h3
 exact .inr ⟨b,o,e,hlt,by rw[show o+(i+1)*6=o+i*6+6 by omega];exact ht⟩
theorem Ks {w:World} {b:Nat} {v0 v1 v2 v3 v4:Value} {t:TypeId} (h:w.heap[b]?=some (.cells #[v0,v1,v2,v3,v4] t (0,0))) :
  (w.cell? ⟨b,0,none⟩=some v0∧w.cell? ⟨b,1,none⟩=some v1∧w.cell? ⟨b,2,none⟩=some v2∧w.cell? ⟨b,3,none⟩=some v3∧w.cell? ⟨b,4,none⟩=some v4)∧∀o,w.frozen? ⟨b,o,none⟩=false:=by
 refine⟨⟨?_,?_,?_,?_,?_⟩,?_⟩
 all_goals first|(intro o;simp[World.frozen?,h])|simp[World.cell?,h]
def Zc9 (w:World) (env:Env) (L:List (ByteArray × Value)) (l:PL) (ad:Option Addr) (mb:Nat) (v:Value) (wr:World):Prop :=
 ∃(i:Nat) (rest:PL),v=.int .i64 (i:Int)∧X1 wr ad l rest i∧Xo env rest=Xo env l ∧
  wr.heap[w.heap.size]?=some (.cells #[.int .i64 0,.int .i64 0,.bool false,.int .i64 0,.int .i64 0] 172 (0,0))∧Below w.heap.size w wr
theorem qS {env:Env} {L:List (ByteArray × Value)} (l:PL) (ih:∀e:PE,e.args.sz<l.sz→QC env L e):Jr env L l:=by
 intro w ad cap mb hs hcap hmx hM
 have HS:=hid hs
 have HM:=hid hM
 have HIH:=hid ih
 clear hs hM ih
 obtain⟨r,hr⟩:∃r,Xo env l=r:=⟨_,rfl⟩
 rw[hr]
 have HR:=hid hr
 clear hr
 go_enter Tryz.func124,Tryz.ntmps124
 go_wp2
 go_loopw [10] (fun v wr=>Hid (Zc9 w env L l ad mb v wr)) (fun i _=>l.len-(intOf i).toNat)
 case atStart=>exact⟨0,l,rfl,(X1.start HS.out).below bq,rfl,Yp w _,bq⟩
 obtain⟨i,rest,rfl,hrest,htl,hbox,hbel⟩:=hrel.out
 clear hrel
 obtain⟨⟨x0,x1,x2,x3,x4⟩,xf⟩:=Ks hbox
 have HBOX:=hid hbox
 have HBEL:=hid hbel
 have hil:=hrest.1
 have hbl:=Zb hbox
 have HRS:=hid hrest
 have HTL:=hid htl
 clear hbox hbel hrest htl
 cases rest with
 | nil =>
  have hil':(i:Int)=(l.len:Int):=by simp only[PL.len] at hil;omega
  have h0:=HTL.out
  rw[Xo] at h0
  have h1:r=.unk:=by rw[←HR.out,←h0]
  subst h1
  clear h0
  repeat' (first|go_values|go_skip|go_guarded|go_step|go_upon|(simp only[Int.not_lt,Int.not_le] at *;go_simp)|(go_values<;>(try go_simp))|(go_ite<;>go_prune<;>(try go_simp))|(split<;>(first|(rename_i hx;exact(hx _ rfl).elim)|go_prune)))
  refine Zl (v:=TT.unk.v) (by simp only[results,Tryz.results124];go_simp;try rfl) rfl ⟨?_,?_⟩
  ·rfl
  exact bq
 | cons k1 nm1 n1 d1 args1 a1 tl =>
  have hil':(i:Int)<(l.len:Int):=by simp only[PL.len] at hil;omega
  obtain⟨b,o,rfl,hb,h0,h1,h2,h3,h5,hn,⟨ad1,cap1,h4,hcap1,hcm1,hd1⟩,ht⟩:=HRS.out.2.2.resolve_left (by intro h;cases h)
  have hsub:=HRS.out.2.1
  simp only[PL.sz] at hsub
  have HC:=hid (HIH.out ⟨k1,nm1,n1,d1,args1,a1⟩ (by show args1.sz<l.sz;omega))
  have HE:=hid (show AE wr ⟨k1,nm1,n1,d1,args1,a1⟩ ad1 cap1 from ⟨hn,⟨hcap1,hcm1⟩,hd1⟩)
  have hgd:=VE env ⟨k1,nm1,n1,d1,args1,a1⟩
  have htl:=HTL.out
  rw[Xo] at htl
  unfold QC at HC
  simp only at HC
  have hte:Qd env ⟨k1,nm1,n1,d1,args1,a1⟩=XR env k1 nm1 n1 d1 a1 (Xo env args1):=rfl
  rw[←hte] at htl
  generalize Qd env ⟨k1,nm1,n1,d1,args1,a1⟩=t at htl hgd HC
  clear hte ht hn hd1
  cases t with
  | unk =>
   simp only at htl
   simp only[TT.v] at HC
   have HT2:=hid htl
   clear htl hgd
   repeat' (first|(go_at_call 89;(with_reducible refine(HC.out _ _ _ _ (HE.out.below bq) (HM.out.below bq)).mono ?_);rintro x w2 ⟨rfl,hb2⟩;obtain⟨hc2,hf2⟩:=Yu hb2;have a2:w.heap.size<w2.heap.size:=Yr hb2 oq;have a3:wr.heap.size<w2.heap.size:=Yr hb2 oq;have hbx2:=(hb2.block w.heap.size oq).trans ((Z5 _ _ hbl).trans HBOX.out);obtain⟨⟨y0,y1,y2,y3,y4⟩,yf⟩:=Ks hbx2;clear hbx2)|go_values|go_skip|go_guarded|go_step|go_upon|(simp only[Int.not_lt,Int.not_le] at *;go_simp)|(go_values<;>(try go_simp))|(go_ite<;>go_prune<;>(try go_simp))|(split<;>(first|(rename_i hx;exact(hx _ rfl).elim)|go_prune)))
   go_roundw
   case rel=>exact⟨i+1,tl,by go_num,HRS.out.tail.below bq,HT2.out,(Below.block (show Below wr.heap.size wr _ from bq) _ hbl).trans HBOX.out,bq⟩
   simp[intOf];omega
  | ok p f =>
   simp only at htl
   simp only[TT.v] at HC
   have h1:r=.ok p f:=by rw[←HR.out,←htl]
   subst h1
   clear htl hgd
   repeat' (first|(go_at_call 89;(with_reducible refine(HC.out _ _ _ _ (HE.out.below bq) (HM.out.below bq)).mono ?_);rintro x w2 ⟨rfl,hb2⟩;obtain⟨hc2,hf2⟩:=Yu hb2;have a2:w.heap.size<w2.heap.size:=Yr hb2 oq;have a3:wr.heap.size<w2.heap.size:=Yr hb2 oq;have hbx2:=(hb2.block w.heap.size oq).trans ((Z5 _ _ hbl).trans HBOX.out);obtain⟨⟨y0,y1,y2,y3,y4⟩,yf⟩:=Ks hbx2;clear hbx2)|go_values|go_skip|go_guarded|go_step|go_upon|(simp only[Int.not_lt,Int.not_le] at *;go_simp)|(go_values<;>(try go_simp))|(go_ite<;>go_prune<;>(try go_simp))|(split<;>(first|(rename_i hx;exact(hx _ rfl).elim)|go_prune)))
   refine Zl (v:=(TT.ok p f).v) (by simp only[results,Tryz.results124];go_simp;try rfl) rfl ⟨?_,?_⟩
   ·rfl
   exact bq
  | bad ab eb =>
   simp only at htl
   simp only[TT.v] at HC
   have h1:r=.bad ab eb:=by rw[←HR.out,←htl]
   subst h1
   have heb:(eb == 0)=false:=ZY.2 hgd
   clear htl hgd
   repeat' (first|(go_at_call 89;(with_reducible refine(HC.out _ _ _ _ (HE.out.below bq) (HM.out.below bq)).mono ?_);rintro x w2 ⟨rfl,hb2⟩;obtain⟨hc2,hf2⟩:=Yu hb2;have a2:w.heap.size<w2.heap.size:=Yr hb2 oq;have a3:wr.heap.size<w2.heap.size:=Yr hb2 oq;have hbx2:=(hb2.block w.heap.size oq).trans ((Z5 _ _ hbl).trans HBOX.out);obtain⟨⟨y0,y1,y2,y3,y4⟩,yf⟩:=Ks hbx2;clear hbx2)|go_values|go_skip|go_guarded|go_step|go_upon|(simp only[Int.not_lt,Int.not_le] at *;go_simp)|(go_values<;>(try go_simp))|(go_ite<;>go_prune<;>(try go_simp))|(split<;>(first|(rename_i hx;exact(hx _ rfl).elim)|go_prune)))
   refine Zl (v:=(TT.bad ab eb).v) (by simp only[results,Tryz.results124];go_simp;try rfl) rfl ⟨?_,?_⟩
   ·rfl
   exact bq
theorem Zaj {env:Env} {L:List (ByteArray × Value)} (hE:Xy L env):∀(N:Nat),(∀l:PL,l.sz<N→Jr env L l)∧(∀e:PE,e.args.sz<N→QC env L e):=by
 intro N
 induction N with
 | zero=>exact⟨fun l h=>absurd h (Yk _),fun e h=>absurd h (Yk _)⟩
 | succ N ih =>
  have h1:∀l:PL,l.sz<N+1→Jr env L l:=fun l h=>qS l (fun e he=>ih.2 e oq)
  exact⟨h1,fun e h=>um hE e (h1 _ h)⟩
theorem KR {env:Env} {L:List (ByteArray × Value)} (hE:Xy L env) (e:PE):QC env L e:=(Zaj hE _).2 e (ZW _)
theorem V4 (k:ByteArray) (v:Value) (nm:ByteArray):∀L:List (ByteArray × Value),Y0 nm (Jc k v L)=if nm=k then some v else Y0 nm L:=by
 intro L
 induction L with
 | nil=>unfold Jc Y0;rfl
 | cons p L ih =>
  unfold Jc
  by_cases hk:k=p.1
  ·rw[Z2 hk]
   unfold Y0
   by_cases h:nm=k
   ·rw[Z2 h,Z2 h]
   rw[Z1 h,Z1 h,Z1 (by rw[←hk];exact h)]
  rw[Z1 hk]
  unfold Y0
  by_cases h:nm=p.1
  ·rw[Z2 h,Z2 h,Z1 (by rw[h];exact fun e=>hk e.symm)]
  rw[Z1 h,Z1 h];exact ih
theorem yi (k:ByteArray) (v:Value):∀L:List (ByteArray × Value),Y0 k L=none→(Jc k v L).length=L.length+1:=by
 intro L
 induction L with
 | nil=>intro _;rfl
 | cons p L ih =>
  intro h
  unfold Y0 at h
  by_cases hk:k=p.1
  ·rw[Z2 hk] at h;cases h
  rw[Z1 hk] at h
  unfold Jc
  rw[Z1 hk,Zp,ih h,Zp]
def upd (env:Env) (k:ByteArray) (c:Int × Int):Env:=fun nm=>if nm=k then some c else env nm
theorem Xy.put {L:List (ByteArray × Value)} {env:Env} (h:Xy L env) (k:ByteArray) (c:Int × Int):Xy (Jc k (cvv c) L) (upd env k c):=by
 intro nm
 rw[V4]
 unfold upd
 by_cases hk:nm=k
 ·rw[Z2 hk,Z2 hk];rfl
 rw[Z1 hk,Z1 hk];exact h nm
def zS (w:World) (mb:Nat):Nat:=match w.heap[mb]? with|some (.map arr _)=>arr.size|_=>0
theorem YG.size {w:World} {mb:Nat} {L:List (ByteArray × Value)} (h:YG w mb L):zS w mb=L.length:=by
 obtain⟨arr,clock,h1,h2⟩:=h
 unfold zS
 rw[h1]
 have:=Z3 List.length h2
 simpa using this
theorem FlC.cells {w:World} {b o:Nat} {nm nm1:ByteArray} {k1 n1 d1 a1 fa:Int} {args1:PL} (h:FlC w b o ⟨nm,⟨k1,nm1,n1,d1,args1,a1⟩,fa⟩):∃ad cap,
  w.cell? ⟨b,o,none⟩=some (.string nm)∧w.cell? ⟨b,o+1,none⟩=some (.int .i64 k1)∧w.cell? ⟨b,o+2,none⟩=some (.string nm1)∧w.cell? ⟨b,o+3,none⟩=some (.int .i64 n1)∧w.cell? ⟨b,o+4,none⟩=some (.int .i64 d1) ∧
  w.cell? ⟨b,o+5,none⟩=some (.slice ad args1.len cap)∧w.cell? ⟨b,o+6,none⟩=some (.int .i64 a1)∧w.cell? ⟨b,o+7,none⟩=some (.int .i64 fa)∧AE w ⟨k1,nm1,n1,d1,args1,a1⟩ ad cap∧(nm.size≤9223372036854775807∧I64 fa):=by
 obtain⟨x0,⟨ad1,cap1,x1,x2,x3,x4,x5,x6,hae⟩,x7,hfn⟩:=h
 exact⟨ad1,cap1,x0,x1,x2,x3,x4,x5,x6,x7,hae,hfn⟩
theorem zO {l:List FL} {i:Nat} (h:i<l.length):l.drop i=l[i]::l.drop (i+1):=by rw[ZN h]
theorem YG.upon {w w':World} {mb r:Nat} {L:List (ByteArray × Value)} (h:YG w mb L) (hu:Upon r w w') (hne:mb≠r):YG w' mb L:=by
 obtain⟨arr,clock,h1,h2⟩:=h
 exact⟨arr,clock,(hu.block mb (Zb h1) hne).trans h1,h2⟩
structure FW (W0 w wr:World) (mb:Nat) (L:List (ByteArray × Value)) (env:Env):Prop where
 upon:Upon mb w wr
 map:YG wr mb L
 env:Xy L env
def isT:Value→Nat
 | .bool true=>1
 | _=>0
def VJ:Ending:=.returned (.tuple #[.int .i64 0,.int .i64 0])
theorem JA (p q p' q':Int) (w:World):(Op.equal 62 (.agg #[.int .i64 p,.int .i64 q]) (.agg #[.int .i64 p',.int .i64 q'])).run Tryz.prog w=.ok (decide (p=p'∧q=q')) w:=by
 have hu:Tryz.prog.underlying 62=some (.struct (Tryz.prog.fieldsOf 62)):=by kernel_rfl
 have hs:Tryz.prog.stoodInHeld 62=false:=by kernel_rfl
 have hf : (Tryz.prog.fieldsOf 62).toList.map (fun f => (f.name, f.type, f.offset)) = [("Period", 2, 0), ("Phase", 2, 1)] := by kernel_rfl
 obtain ⟨f1, f2, hl, n1, t1, o1, n2, t2, o2⟩ : ∃ f1 f2, (Tryz.prog.fieldsOf 62).toList = [f1, f2] ∧ f1.name = "Period" ∧ f1.type = 2 ∧ f1.offset = 0 ∧ f2.name = "Phase" ∧ f2.type = 2 ∧ f2.offset = 1 := by
  generalize (Tryz.prog.fieldsOf 62).toList=l at hf
  cases l with
  | nil=>simp at hf
  | cons f1 l =>
   cases l with
   | nil=>simp at hf
   | cons f2 l =>
    cases l with
    | nil=>simp at hf;exact⟨f1,f2,rfl,hf.1.1,hf.1.2.1,hf.1.2.2,hf.2.1,hf.2.2.1,hf.2.2.2⟩
    | cons f3 l=>simp at hf
 unfold Op.equal
 rw[show Op.maxDepth=9998+1+1 from rfl,run_equalIn_agg w (9998+1) 62 _ _ hu hs,hl]
 have hi:(isAgg 2).run Tryz.prog w=.ok false w:=by kernel_rfl
 have hp:(Op.equalIn (9998+1) 2 (.int .i64 p) (.int .i64 p')).run Tryz.prog w=.ok (p == p') w:=run_equalIn_int w 9998 2 .i64 .i64 _ _ Tryz.underlying2
 have hn:(Op.equalIn (9998+1) 2 (.int .i64 q) (.int .i64 q')).run Tryz.prog w=.ok (q == q') w:=run_equalIn_int w 9998 2 .i64 .i64 _ _ Tryz.underlying2
 simp only[Op.eqFields,n1,t1,o1,n2,t2,o2]
 simp[part,hi,hp,hn]
 by_cases h1:p=p'<;>by_cases h2:q=q'<;>simp[h1,h2]
def TT.clk:TT→Int × Int
 | .ok p f=>(p,f)
 | _=>(0,0)
def ckL (env:Env) (c:Int × Int):PL→Bool
 | .nil=>true
 | .cons k nm n d args a tl=>match XR env k nm n d a (Xo env args) with
  | .bad _ _=>false
  | .unk=>decide ((0,0)=c)&&ckL env c tl
  | .ok p f=>decide ((p,f)=c)&&ckL env c tl
def ckA (env:Env):PL→Bool
 | .nil=>true
 | .cons k nm n d args a tl=>match XR env k nm n d a (Xo env args) with
  | .bad _ _=>false
  | .unk=>ckL env (0,0) tl
  | .ok p f=>ckL env (p,f) tl
end Go.Proofs.YtgigilkpndhddaaGreatDoor.syn
