/- Parts of the proof. -/
import Derived.Lib.MinMax
import Derived.Test.YtlhlcdjiafdoeaaGreatDoorV08
import Derived.Test.YtlhlcdjiafdoeaaGreatDoorV27
set_option linter.all false
set_option maxRecDepth 100000
set_option maxHeartbeats 16000000
namespace Go.Proofs.YtlhlcdjiafdoeaaGreatDoor.syn
open Go.RowKit
theorem VU {T:ByteArray→Int} {L:List (Addr × Value)} {l:PL} {b o i:Nat} {a:Addr} (h:(Qa T L l b o i).2=some a):∃f,a=⟨b,o+i*6,none⟩∧l.at i=some f∧Xz a L=none:=by
 unfold Qa at h
 cases hi:l.at i with
 | none=>rw[hi] at h;cases h
 | some f =>
  rw[hi] at h
  simp only at h
  split at h
  ·cases hg:Xz ⟨b,o+i*6,none⟩ L with
   | some v=>rw[hg] at h;cases h
   | none =>
    rw[hg] at h
    injection h with h
    subst h
    exact⟨f,rfl,rfl,hg⟩
  cases h
theorem ZbO {T:ByteArray→Int} {L:List (Addr × Value)} {e:PE} {b o:Nat} (hq:∀i,Za5 T e i (Qa T L e.args b o i)) :
  ((rkV T e (Qa T L e.args b o)).2=none→(rkV T e (Qa T L e.args b o)).1=.int .i64 (evE T e)) ∧
  ∀a,(rkV T e (Qa T L e.args b o)).2=some a→∃i f,a=⟨b,o+i*6,none⟩∧e.args.at i=some f∧Xz a L=none:=by
 unfold rkV
 by_cases hk:e.k=13
 ·rw[Z0 hk]
  have hev:evE T e=opE e.nm (evA T e.args 0) (evA T e.args 1) (evA T e.args 2):=by unfold evE;rw[Z0 hk]
  by_cases h0:(Qa T L e.args b o 0).2≠none
  ·rw[Z0 h0]
   exact⟨fun h=>absurd h h0,fun a ha=>by obtain⟨f,h1,h2,h3⟩:=VU ha;exact⟨0,f,h1,h2,h3⟩⟩
  rw[ZZ h0]
  by_cases hn:e.nm.toList=[63]
  ·rw[Z0 hn]
   have hev2:evE T e=if evA T e.args 0≠0 then evA T e.args 1 else evA T e.args 2:=by rw[hev];unfold opE;rw[Z0 hn]
   by_cases hz:evA T e.args 0≠0
   ·rw[Z0 hz]
    rw[Z0 hz] at hev2
    rw[hev2]
    exact⟨(hq 1).val,fun a ha=>by obtain⟨f,h1,h2,h3⟩:=VU ha;exact⟨1,f,h1,h2,h3⟩⟩
   rw[ZZ hz]
   rw[ZZ hz] at hev2
   rw[hev2]
   exact⟨(hq 2).val,fun a ha=>by obtain⟨f,h1,h2,h3⟩:=VU ha;exact⟨2,f,h1,h2,h3⟩⟩
  rw[ZZ hn]
  by_cases h1:(Qa T L e.args b o 1).2≠none
  ·rw[Z0 h1]
   exact⟨fun h=>absurd h h1,fun a ha=>by obtain⟨f,h1,h2,h3⟩:=VU ha;exact⟨1,f,h1,h2,h3⟩⟩
  rw[ZZ h1]
  exact⟨fun _=>rfl,fun a ha=>by cases ha⟩
 rw[ZZ hk]
 refine⟨fun _=>?_,fun a ha=>by cases ha⟩
 unfold evE
 rw[ZZ hk]
theorem j5 {w w':World} (hk:∀(b:Nat) (cs:Array Value) (t:TypeId),w.heap[b]?=some (.cells cs t (0,0))→w'.heap[b]?=w.heap[b]?):∀(l:PL) (b o:Nat),(∃cs t,w.heap[b]?=some (.cells cs t (0,0)))→X1 w (fun _=>True) b l o→X1 w' (fun _=>True) b l o:=by
 intro l
 induction l with
 | nil=>intro b o _ _;trivial
 | cons k nm n d args a tl ih1 ih2 =>
  intro b o hb h
  obtain⟨cs,t,hcs⟩:=hb
  have hc:∀o,w'.cell? ⟨b,o,none⟩=w.cell? ⟨b,o,none⟩:=fun o=>Zn (w:=w) (a:=⟨b,o,none⟩) (hk b cs t hcs)
  obtain⟨h0,h1,h2,h3,h5,⟨ad,cap,h4,hcap,hd⟩,ht⟩:=h
  refine⟨(hc _).trans h0,(hc _).trans h1,(hc _).trans h2,(hc _).trans h3,(hc _).trans h5,⟨ad,cap,(hc _).trans h4,hcap,?_⟩,ih2 b _ ⟨cs,t,hcs⟩ ht⟩
  rcases hd with hd|⟨b',o',e,⟨h6,cs',hcs'⟩,hd⟩
  ·exact .inl hd
  exact .inr ⟨b',o',e,⟨h6,cs',(hk b' cs' _ hcs').trans hcs'⟩,ih1 b' o' ⟨cs',_,hcs'⟩ hd⟩
theorem At.but {w w':World} (hk:∀(b:Nat) (cs:Array Value) (t:TypeId),w.heap[b]?=some (.cells cs t (0,0))→w'.heap[b]?=w.heap[b]?) {x:Addr} {e:PE} (h:At w x e):At w' x e:=by
 obtain⟨b,o,ad,cap,h0,⟨cs,t,h1⟩,h2,h3,h4,h5,h6,h7,h8,h9⟩:=h
 have hb:=hk b cs t h1
 have hc:∀o,w'.cell? ⟨b,o,none⟩=w.cell? ⟨b,o,none⟩:=fun o=>Zn (w:=w) (a:=⟨b,o,none⟩) hb
 refine⟨b,o,ad,cap,h0,⟨cs,t,hb.trans h1⟩,(hc _).trans h2,(hc _).trans h3,(hc _).trans h4,(hc _).trans h5,(hc _).trans h6,(hc _).trans h7,h8,?_⟩
 rcases h9 with h9|⟨b',o',e',⟨h10,cs',hcs'⟩,hd⟩
 ·exact .inl h9
 exact .inr ⟨b',o',e',⟨h10,cs',(hk b' cs' _ hcs').trans hcs'⟩,j5 hk _ b' o' ⟨cs',_,hcs'⟩ hd⟩
def msz (w:World) (mq:Nat):Nat:=match w.heap[mq]? with
 | some (.map arr _)=>arr.size
 | _=>0
theorem Ja.msz {w:World} {mq:Nat} {L:List (Addr × Value)} (h:Ja w mq L):syn.msz w mq=L.length:=by
 obtain⟨arr,clock,h1,h2⟩:=h
 unfold syn.msz
 rw[h1]
 have:=Z1 List.length h2
 simpa using this
def lenOf:Value→Nat
 | .slice _ n _=>n
 | _=>0
def U0 (l:List Addr):List Value:=l.map (fun a=>.pointer (some a))
theorem gq (l:List Addr) (x:Addr):U0 (l++[x])=U0 l++[.pointer (some x)]:=by simp[U0]
theorem vY (l:List Addr) (n:Nat):(U0 l).take n=U0 (l.take n):=by simp[U0,List.map_take]
theorem Zaw {l:List Addr} {i:Nat} {x:Addr} (h:l[i]?=some x):(U0 l)[i]?=some (.pointer (some x)):=by simp[U0,h]
theorem vX {w:World} {B:Nat} {v:Value} {l:List Addr} {t:TypeId} (h:w.ownsRow B t 1 v l.length (U0 l)) (h0:0<l.length):∃g cap,v=.slice (some ⟨g,0,none⟩) l.length cap∧B≤g∧g<w.heap.size∧l.length≤cap∧(∀i x,l[i]?=some x→w.cell? ⟨g,i,none⟩=some (.pointer (some x))):=by
 have h2:=h
 rcases h.2 with ⟨_,h1⟩|⟨g,cap,cur,rfl,hb,hg,hcap,_⟩
 ·omega
 exact⟨g,cap,rfl,hb,Zb hg,hcap,fun i x hi=>(World.ownsRow.cellAt h2 i (by have:=(Zz.1 hi).1;omega)).trans (Zaw hi)⟩
theorem e8:(Tryz.prog.info? 251).map (fun i=>(i.zero,i.size,i.bytes))=some (some (.pointer none),1,8):=by kernel_rfl
theorem uz {w:World} {rb tb ma mq:Nat} {La:List (ByteArray × Value)} {T:ByteArray→Int} (hr:RkM w rb tb ma mq La []) (hne:ma≠mq) (hT:TV La T) {bx ox:Nat} {e0:PE} (h0:At w ⟨bx,ox,none⟩ e0) (hsz:e0.sz≤1000)
  {R:PE→Prop} (hR0:R e0) (hR:∀e i f,R e→e.args.at i=some f→R f) (hRI:∀e,R e→Zcd T e.args) :
  Calls Tryz.prog 152 #[.pointer (some ⟨rb,0,none⟩),.pointer (some ⟨bx,ox,none⟩)] w fun y w'=>y=.returned (.int .i64 (evE T e0))∧But (fun k=>k=mq) w w':=by
 obtain⟨occ,hx0,hclo,hoR⟩:=Zby h0
 have hO:=hoR R hR hR0
 obtain⟨x0,hx⟩:∃x0,(⟨bx,ox,none⟩:Addr)=x0:=⟨_,rfl⟩
 rw[hx] at h0 hx0 ⊢
 have HR:=hid hr
 have HT:=hid hT
 have H0:=hid h0
 have HO:=hid hO
 have HCL:=hid hclo
 have HST:=hid (Vg.start (T:=T) h0 hx0)
 have hmq:=hr.vals.lt
 clear hr hT h0 hO hclo hx hx0 hoR hR hR0
 go_enter Tryz.func152,Tryz.ntmps152
 go_wp2
 go_loopw [5] (fun s5 wr=>Hid (∃Ws L,Vg w T x0 e0 occ Ws L∧wr.ownsRow w.heap.size 251 1 s5 Ws.length (U0 Ws)∧Ja wr mq L∧But (fun k=>k=mq) w wr)) (fun s wr=>2*(occ.length-msz wr mq)+lenOf s)
 case atStart =>
  refine⟨[x0],[],HST.out,?_,HR.out.vals.keep (Za _ _ _ hmq),(But.refl _ _).alloc _⟩
  exact⟨rfl,.inr ⟨w.heap.size,1,#[.pointer (some x0)],rfl,Zc _,Yt w _,Zc _,by unfold maxLen;omega,rfl,rfl⟩⟩
 clear HST
 obtain⟨wo,rfl⟩:∃wo:World,wo=wr:=⟨_,rfl⟩
 obtain⟨Ws,L,hv,hown,hmap,hbut⟩:=hrel.out
 clear hrel
 have hkeep:∀(b:Nat) (cs:Array Value) (t:TypeId),w.heap[b]?=some (.cells cs t (0,0))→wo.heap[b]?=w.heap[b]?:=fun b cs t h=>hbut.block b (Zb h) (fun e=>by
  subst e
  obtain⟨arr,clock,h1,_⟩:=HR.out.vals
  rw[h] at h1
  cases h1)
 have hks:∀p∈L,K0 wo p.1:=fun p hp=>(hv.keys p hp).2.keep (fun b cs t h=>⟨cs,(hkeep b cs t h).trans h⟩)
 have hrk:RkM wo rb tb ma mq La L:=⟨(hkeep _ _ _ HR.out.box).trans HR.out.box,(hkeep _ _ _ HR.out.tb).trans HR.out.tb,by
  have e:=hbut.block ma HR.out.args.lt hne
  obtain⟨arr,clock,h1,h2⟩:=HR.out.args
  exact⟨arr,clock,e.trans h1,h2⟩,hmap,hks⟩
 have b1:wo.cell? ⟨rb,1,none⟩=some (.map (some mq)):=by simp[World.cell?,hrk.box]
 have HM:=hid hmap
 have HKS:=hid hks
 have HBUT:=hid hbut
 have HV:=hid hv
 have HKEEP:=hid hkeep
 by_cases hW:Ws=[]
 ·subst hW
  obtain⟨a5,c5,rfl⟩:=YD hown
  have HL:=hid (show(Xz x0 L).getD (.int .i64 0)=.int .i64 (evE T e0) by rw[hv.fin rfl];rfl)
  have HK:=hid ((H0.out.k0).keep (fun b cs t h=>⟨cs,(hkeep b cs t h).trans h⟩))
  clear hkeep hks hrk hown hmap hbut hv
  go_wp2_with (at_lookup;refine JE Jo _ rfl _ _ false rfl mq L x0 rfl rfl HM.out HKS.out HK.out _ HL.out ?_)
  go_ret
  exact⟨rfl,HBUT.out⟩
 have hWl:0<Ws.length:=List.length_pos_iff.2 hW
 obtain⟨n,hn⟩:∃n,Ws.length=n+1:=⟨Ws.length-1,oq⟩
 have hnn:Ws.length-1=n:=oq
 obtain⟨x,hx⟩:∃x,Ws[Ws.length-1]?=some x:=⟨_,Ze oq⟩
 obtain⟨e,he,hxo,hes,_⟩:=hv.st _ x hx
 have hew:=he.but hkeep
 obtain⟨e',he',hcl⟩:=HCL.out x hxo
 have:=he'.one he
 subst this
 have hbo:∃b o,(∀ad cap,wo.cell? ⟨x.block,x.off+4,none⟩=some (.slice ad e'.args.len cap)→e'.args.len=0∨ad=some ⟨b,o,none⟩)∧(∀f j,e'.args.at j=some f→At w ⟨b,o+j*6,none⟩ f)∧(∀i,i<e'.args.len→(⟨b,o+i*6,none⟩:Addr)∈occ):=by
  obtain⟨bx2,ox2,ad,cap,rfl,⟨cs0,t0,hbk⟩,g0,g1,g2,g3,g5,g4,gcap,gd⟩:=he
  have gw:=(Zn (w:=w) (a:=⟨bx2,ox2+4,none⟩) (hkeep _ _ _ hbk)).trans g4
  rcases gd with gd|⟨b',o',rfl,⟨_,cs,hcs⟩,hc⟩
  ·exact⟨0,0,fun _ _ _=>.inl (by rw[gd];rfl),(fun f j h=>by rw[gd] at h;cases h),(fun i h=>by rw[gd] at h;cases h)⟩
  refine⟨b',o',fun ad cap h=>.inr ?_,fun f j h=>Gr _ _ _ _ _ ⟨cs,_,hcs⟩ hc h,fun i hi=>hcl b' o' cap g4 i hi⟩
  rw[gw] at h
  injection h with h
  injection h with h
  exact h.symm
 obtain⟨b,o,hbo1,hbo2,hbo3⟩:=hbo
 have hls:=X5 e'.args
 have hesz:e'.args.sz+1=e'.sz:=rfl
 have hqq:=hv.told hx he b o hbo2
 obtain⟨hr1,hr2⟩:=ZbO hqq
 have hxf:∃bx1 ox1,x=⟨bx1,ox1,none⟩:=by
  obtain⟨bx2,ox2,_,_,e,_⟩:=he
  exact⟨bx2,ox2,e⟩
 obtain⟨bx1,ox1,rfl⟩:=hxf
 have HRK:=hid (qK (w:=wo) hrk HT.out hew oq (by obtain⟨f,hf,hRf⟩:=HO.out _ hxo;have:=hf.one he;subst this;exact hRI _ hRf) b o hbo1 hqq)
 obtain⟨g,c5,rfl,hgB,hgs,hgcap,hgc⟩:=vX hown hWl
 have c1:=hgc _ _ hx
 rw[hnn] at c1
 have HE:=hid he
 have HX:=hid hx
 have HOWN:=hid (show wo.ownsRow w.heap.size 251 1 (.slice (some ⟨g,0,none⟩) (n+1) c5) (n+1) (U0 Ws) by rw[←hn];exact hown)
 have hwl:=hv.len
 have hfew:=hv.few
 have hmz:=hmap.msz
 obtain⟨⟨v7,a8⟩,hr⟩:∃r,rkV T e' (Qa T L e'.args b o)=r:=⟨_,rfl⟩
 rw[hr] at hr1 hr2 HRK
 simp only at hr1 hr2 HRK
 have hgz:((n:Nat):Int)+1-1=(n:Int):=oq
 have n0:(0:Int)≤(n:Int):=oq
 have n1:(n:Int)<((Ws.length:Nat):Int):=oq
 have n2:((Ws.length:Nat):Int)-1=(n:Int):=oq
 have n3:(0:Int)<((Ws.length:Nat):Int):=oq
 have n4:((Ws.length:Nat):Int) > 0:=oq
 clear hkeep hks hrk hown hmap hbut hv hgc hx he hqq hew he' hcl hbo1 hr
 cases a8 with
 | some a =>
  obtain⟨i,f,ha,hf,hg⟩:=hr2 a rfl
  subst ha
  obtain⟨y,hy⟩:∃y,(⟨b,o+i*6,none⟩:Addr)=y:=⟨_,rfl⟩
  have hyat:=hbo2 f i hf
  have hil:i<e'.args.len:=by
   by_cases hlt:i<e'.args.len
   ·exact hlt
   rw[PL.at_none _ _ oq] at hf;cases hf
  have hyo:=hbo3 i hil
  have hfs:f.sz<e'.sz:=by
   obtain⟨e3,he3,h5⟩:=PL.at_some e'.args i hil
   rw[hf] at he3
   injection he3 with he3
   subst he3
   have:=UE e'.args i
   omega
  rw[hy] at hg hyat hyo HRK
  have hput:=JA (k:=y) (v:=.int .i64 0) HV.out.nodup
  have hnew:=Z1 List.length (Gg (v:=.int .i64 0) hg)
  have HV2:=hid (HV.out.push HX.out HE.out hyat hyo hfs hg)
  have hfew2:=HV2.out.few
  have HKY:=hid (hyat.k0.keep (fun b cs t h=>⟨cs,(HKEEP.out b cs t h).trans h⟩))
  obtain⟨i0,hi0,hi1,hi2,hi3⟩:=info_parts e8
  have HI:=hid (Zh hi0 (Zh hi1 (Zh hi2 hi3)))
  rw[Zw] at hnew
  simp only[List.length_singleton] at hnew
  clear hi0 hi1 hi2 hi3 hr1 hr2 hf hg hyat hyo hfs hbo2 hbo3 hy hil hput
  go_wp2_with (first|(go_at_call 164;refine HRK.out.mono ?_;rintro yy w2 ⟨rfl,m2,rfl⟩)|(at_mapUpdate;refine UV Jo _ rfl _ _ _ rfl mq L y (.int .i64 0) rfl rfl rfl (HM.out.keep rfl) HKS.out HKY.out ?_;intro w6 hu6 hs6 hm6;have HM6:=hid hm6;have hb6:But (fun k=>k=mq) wo w6:=((But.refl _ wo).drewN m2).trans (But.of_upon hu6);have HB6:=hid hb6;have HO6:=hid (hb6.own HOWN.out (fun k hk e=>by have:=YW HOWN.out k hk;omega));have hz6:=hb6.size;clear hu6 hs6 hm6 hb6)|(refine lite.Xd _ (by rfl) _ _ _ (by rfl) w.heap.size 251 i0 _ 1 8 Tryz.underlying265 HI.out.1 HI.out.2.1 HI.out.2.2.1 HI.out.2.2.2 rfl oq (.slice (some ⟨g,0,none⟩) (n+1) c5) (n+1) (U0 Ws) (by rfl) (own_below HO6.out bq) (some ⟨w6.heap.size,0,none⟩) 1 1 [.pointer (some y)] (by rfl) (by rfl) (fun j u h=>⟨_,rfl,World.news_of_block (Zy _ _) j u h⟩) (by simp[Value.oneCell']) (by unfold maxLen;omega) oq (by simp only[Zt];omega) ?_;intro v9 w9 hown9 hg9 hl9;have HO9:=hid hown9;have hb9:But (fun k=>(Value.slice (some ⟨g,0,none⟩) (n+1) c5).ownBlock=some k) w6 w9:=(But.of_below ((Zg _ _).alloc (Zc _) _)).then (But.of_grown hg9) (fun _ _ e=>e);have HB9:=hid hb9;clear hown9 hg9 hl9 hb9))
  have hob:∀k,(Value.slice (some ⟨g,0,none⟩) (n+1) c5).ownBlock=some k→k=g:=fun k h=>by
   injection h with h
   exact h.symm
  obtain⟨a6,c6,rfl⟩:=YD HO9.out
  have hm9:Ja w9 mq (QC y (.int .i64 0) L):=HM6.out.keep (HB9.out.block mq HM6.out.lt (fun e=>by have:=hob _ e;omega))
  refine⟨hid ⟨Ws++[y],QC y (.int .i64 0) L,HV2.out,?_,hm9,?_⟩,?_⟩
  ·rw[gq,Zw,hn]
   exact HO9.out
  ·exact(HBUT.out.trans HB6.out).then HB9.out (fun i hi e=>by have:=hob _ e;omega)
  rw[hm9.msz,hmz,hnew]
  show 2*(occ.length-(L.length+1))+(n+1+1)<2*(occ.length-L.length)+Ws.length
  omega
 | none =>
  have hr1:=hr1 rfl
  subst hr1
  have hput:=JA (k:=(⟨bx1,ox1,none⟩:Addr)) (v:=.int .i64 (evE T e')) HV.out.nodup
  have HV2:=hid (HV.out.pop H0.out HX.out HE.out)
  have hfew2:=HV2.out.few
  have HKX:=hid (HE.out.k0.keep (fun b cs t h=>⟨cs,(HKEEP.out b cs t h).trans h⟩))
  obtain⟨ev,hev⟩:∃ev,evE T e'=ev:=⟨_,rfl⟩
  rw[hev] at HV2 HRK hput hfew2
  clear hr2 hbo2 hbo3 hev
  go_upto_region 8 with (go_at_call 164;refine HRK.out.mono ?_;rintro yy w2 ⟨rfl,m2,rfl⟩)
  obtain⟨W,hW2⟩:∃W,wo.drewN m2=W:=⟨_,rfl⟩
  have b2:W.cell? ⟨rb,1,none⟩=some (.map (some mq)):=by rw[←hW2];exact b1
  have c2:W.cell? ⟨g,n,none⟩=some (.pointer (some ⟨bx1,ox1,none⟩)):=by rw[←hW2];exact c1
  have HBW:=hid (show But (fun k=>k=mq) wo W.drew by rw[←hW2];exact((But.refl _ wo).drewN m2).drew)
  have HMW:=hid (show Ja W.drew mq L by rw[←hW2];exact HM.out.keep rfl)
  have HKSW:=hid (show ∀p∈L,K0 W.drew p.1 by rw[←hW2];exact HKS.out)
  have HKXW:=hid (show K0 W.drew ⟨bx1,ox1,none⟩ by rw[←hW2];exact HKX.out)
  rw[hW2]
  have n5:(n:Int)<((n+1:Nat):Int):=oq
  have n7:n≤c5:=oq
  have n6:(n:Int)<(n:Int)+1:=oq
  clear hW2
  go_still_tail 9,kq
  change wpList _ _ _ _ _ W.drew
  go_wp2_with (at_mapUpdate;refine UV Jo _ rfl _ _ _ rfl mq L ⟨bx1,ox1,none⟩ (.int .i64 ev) rfl rfl rfl HMW.out HKSW.out HKXW.out ?_;intro w6 hu6 hs6 hm6;have HM6:=hid hm6;have hb6:But (fun k=>k=mq) wo w6:=HBW.out.trans (But.of_upon hu6);have HB6:=hid hb6;have HO6:=hid (hb6.own HOWN.out (fun k hk e=>by have:=YW HOWN.out k hk;omega));have hz6:=hb6.size;clear hu6 hs6 hm6 hb6)
  have htl:(Ws.take (Ws.length-1)).length=n:=by rw[Z9];omega
  refine⟨hid ⟨Ws.take (Ws.length-1),QC ⟨bx1,ox1,none⟩ (.int .i64 ev) L,HV2.out,?_,HM6.out,HBUT.out.trans HB6.out⟩,?_⟩
  ·rw[htl,hnn,←vY]
   exact yK HO6.out oq
  rw[HM6.out.msz,hmz]
  show 2*(occ.length-(QC ⟨bx1,ox1,none⟩ (.int .i64 ev) L).length)+n<2*(occ.length-L.length)+Ws.length
  have:=hput.2
  omega
def Uj (nm:ByteArray):List (ByteArray × Int)→Option Value
 | []=>none
 | p::l=>if nm=p.1 then some (.int .i64 p.2) else Uj nm l
theorem UG (nm:ByteArray) (p:ByteArray × Int):∀l,Uj nm (l++[p])=if Uj nm l=none then (if nm=p.1 then some (.int .i64 p.2) else none) else Uj nm l
 | []=>by simp[Uj]
 | q::l=>by
  rw[ZB]
  unfold Uj
  by_cases h:nm=q.1
  ·simp[h]
  rw[ZZ h,ZZ h,UG nm p l]
def En (ps:List ByteArray) (al:List Int) (nm:ByteArray):Int:=((ps.zip al).find? (fun p=>nm=p.1)).elim 0 (·.2)
theorem UT (nm:ByteArray):∀l:List (ByteArray × Int),(Uj nm l).getD (.int .i64 0)=.int .i64 ((l.find? (fun p=>nm=p.1)).elim 0 (·.2))
 | []=>rfl
 | p::l=>by
  unfold Uj
  by_cases h:nm=p.1
  ·simp[h]
  rw[ZZ h,UT nm l]
  simp[h]
def Jq {α:Type} (w:World) (mk:α→Value) (ad:Option Addr) (l:List α):Prop:=l=[]∨∃b o,ad=some ⟨b,o,none⟩∧b<w.heap.size∧∀(i:Nat) (x:α),l[i]?=some x→w.cell? ⟨b,o+i,none⟩=some (mk x)
theorem Jq.keep {α:Type} {w w':World} {mk:α→Value} {ad:Option Addr} {l:List α} (h:Jq w mk ad l) (hk:∀b,b<w.heap.size→w'.heap[b]?=w.heap[b]?):Jq w' mk ad l:=by
 rcases h with h|⟨b,o,e,hb,hc⟩
 ·exact .inl h
 exact .inr ⟨b,o,e,Zb ((hk b hb).trans (Yk hb)),fun i x hx=>(Zn (w:=w) (a:=⟨b,o+i,none⟩) (hk b hb)).trans (hc i x hx)⟩
theorem qR {w:World} (ps:List ByteArray) (al:List Int) (pa:Option Addr) (pc:Nat) (aa:Option Addr) (ac:Nat) (hp:Jq w Value.string pa ps) (ha:Jq w (Value.int .i64) aa al) (hpl:ps.length≤100000) (hal:al.length≤100000) :
  Calls Tryz.prog 151 #[.slice pa ps.length pc,.slice aa al.length ac] w fun y w'=>∃tb ma La,y=.returned (.func (.func 163) #[] #[.pointer (some ⟨tb,0,none⟩)])∧w.heap.size≤tb∧w.heap.size≤ma∧w'.heap[tb]?=some (.cells #[.map (some ma)] 263 (0,0))∧YJ w' ma La∧TV La (En ps al)∧Below w.heap.size w w':=by
 have HP:=hid hp
 have HA:=hid ha
 obtain⟨m,hm⟩:∃m,min ps.length al.length=m:=⟨_,rfl⟩
 have hmin:min (ps.length:Int) (al.length:Int)=(m:Int):=oq
 have hmk:=fun w=>run_makeMap (P:=Tryz.prog) 263 w
 have HMW:=hid (YJ.new w)
 have HHW:=hid (Yt w (.map #[] 0))
 clear hp ha
 go_enter Tryz.func151,Tryz.ntmps151
 go_wp2
 go_loopw [15] (fun s15 wr=>Hid (∃i La,s15=.int .i64 ((i:Nat):Int)∧i≤m∧YJ wr w.heap.size La∧(∀nm,YT nm La=Uj nm ((ps.zip al).take i))∧wr.heap[w.heap.size+1]?=some (.cells #[.map (some w.heap.size)] 263 (0,0))∧Below w.heap.size w wr)) (fun s _=>m-(intOf s).toNat)
 case atStart =>
  refine⟨0,[],rfl,Zk _,HMW.out.below ((Zg _ _).alloc (Zc _) _),fun nm=>rfl,?_,((Zg _ _).alloc (Zc _) _).alloc (by simp) _⟩
  have h:=Yt (w.alloc (.map #[] 0)) (.cells #[.map (some w.heap.size)] 263)
  rwa [Zt] at h
 obtain⟨wo,rfl⟩:∃wo:World,wo=wr:=⟨_,rfl⟩
 obtain⟨i,La,rfl,hi,hmap,hget,hbox,hbel⟩:=hrel.out
 clear hrel
 have HM:=hid hmap
 have HG:=hid hget
 have HBX:=hid hbox
 have HBE:=hid hbel
 by_cases him:i<m
 ·have h1:(i:Int)<(m:Int):=oq
  have hip:i<ps.length:=oq
  have hia:i<al.length:=oq
  obtain⟨k,hk⟩:∃k,ps[i]=k:=⟨_,rfl⟩
  obtain⟨v,hv⟩:∃v,al[i]=v:=⟨_,rfl⟩
  have hzip:(ps.zip al)[i]?=some (k,v):=by rw[List.getElem?_zip_eq_some];exact⟨by rw[←hk];exact Ze hip,by rw[←hv];exact Ze hia⟩
  have htake:(ps.zip al).take (i+1)=(ps.zip al).take i++[(k,v)]:=by rw[List.take_add_one,hzip];rfl
  obtain⟨bp,op,rfl,hbp,hcp⟩:=HP.out.resolve_left (fun e=>by rw[e] at hip;simp at hip)
  obtain⟨ba,oa,rfl,hba,hca⟩:=HA.out.resolve_left (fun e=>by rw[e] at hia;simp at hia)
  have cp:wo.cell? ⟨bp,op+i,none⟩=some (.string k):=(Zn (w:=w) (a:=⟨bp,op+i,none⟩) (hbel.block bp hbp)).trans (hcp i k (by rw[←hk];exact Ze hip))
  have ca:wo.cell? ⟨ba,oa+i,none⟩=some (.int .i64 v):=(Zn (w:=w) (a:=⟨ba,oa+i,none⟩) (hbel.block ba hba)).trans (hca i v (by rw[←hv];exact Ze hia))
  have cb:=jp hbox
  have i0:(0:Int)≤(i:Int):=oq
  have i1:(i:Int)<(ps.length:Int):=oq
  have i2:(i:Int)<(al.length:Int):=oq
  have HTK:=hid htake
  clear hmap hget hbox hbel hzip htake hk hv hcp hca
  go_upto_region 5 with fail
  have hlk:=Xr EC (show YJ wo.drew w.heap.size La from HM.out) k true
  cases hg:YT k La with
  | some v0 =>
   rw[hg] at hlk
   simp only[Option.getD,Option.isSome,if_true] at hlk
   have HGV:=hid hg
   go_region
   all_goals go_wp2
   refine⟨hid ⟨i+1,La,by rw[show((i+1:Nat):Int)=(i:Int)+1 by omega],oq,HM.out,fun nm=>?_,HBX.out,HBE.out.drew⟩,?_⟩
   ·rw[HTK.out,UG,←HG.out nm]
    by_cases hn:nm=k
    ·subst hn
     rw[HGV.out,ZZ (by simp)]
    rw[ZZ hn]
    by_cases hz:YT nm La=none
    ·rw[Z0 hz,hz]
    rw[ZZ hz]
   show m-((i:Int)+1).toNat<m-(i:Int).toNat
   omega
  | none =>
   rw[hg] at hlk
   simp only[Option.getD,Option.isSome,if_true] at hlk
   obtain⟨arr,clock,hput,hm2⟩:=V8 EC (show YJ wo.drew.drew w.heap.size La from HM.out) k (.int .i64 v)
   have HM2:=hid hm2
   have HGV:=hid hg
   clear hm2
   go_region
   all_goals go_upto_region 7 with fail
   all_goals go_region
   all_goals go_wp2
   refine⟨hid ⟨i+1,QZ k (.int .i64 v) La,by rw[show((i+1:Nat):Int)=(i:Int)+1 by omega],oq,HM2.out,fun nm=>?_,?_,XX HBE.out.drew.drew (Zc _) _⟩,?_⟩
   ·rw[JQ,HTK.out,UG,←HG.out nm]
    by_cases hn:nm=k
    ·subst hn
     rw[HGV.out,Z0 rfl,Z0 rfl]
    rw[ZZ hn,ZZ hn]
    by_cases hz:YT nm La=none
    ·rw[Z0 hz,hz]
    rw[ZZ hz]
   ·show(wo.heap.setIfInBounds w.heap.size _)[w.heap.size+1]?=_
    rw[Array.getElem?_setIfInBounds_ne oq]
    exact HBX.out
   show m-((i:Int)+1).toNat<m-(i:Int).toNat
   omega
 have h1:¬(i:Int)<(m:Int):=oq
 clear hmap hget hbox hbel
 go_wp2
 go_ret
 refine⟨_,rfl,oq,_,Zc _,HBX.out,La,HM.out,fun nm=>?_,HBE.out⟩
 rw[HG.out nm,List.take_of_length_le (by rw[List.length_zip];omega),UT]
 rfl
def B64 (x:Int):Prop:=-9223372036854775808≤x∧x≤9223372036854775807
def PL.n64:PL→Prop
 | .nil=>True
 | .cons _ _ n _ args _ tl=>B64 n∧args.n64∧tl.n64
def PE.n64 (e:PE):Prop:=B64 e.n∧e.args.n64
theorem eq (n:Int):B64 (wrap64 n):=by unfold B64 wrap64;omega
theorem ZcH (s:List UInt8) {a b:Int} (ha:B64 a) (hb:B64 b):B64 (body.opP s a b):=by
 have h0:B64 0:=by unfold B64;omega
 have h1:B64 1:=by unfold B64;omega
 unfold body.opP
 repeat' split
 all_goals first
  | exact eq _
  | exact h0
  | exact h1
  | skip
 have h2:=Int.natAbs_tmod a b
 have h3:a.natAbs%b.natAbs<b.natAbs:=Nat.mod_lt _ oq
 unfold B64 at *
 omega
theorem ju {T:ByteArray→Int} (hT:∀nm,B64 (T nm)):∀(l:PL),l.n64→∀i,B64 (evA T l i)
 | .nil,_,_=>by unfold evA B64;omega
 | .cons k nm n d args a tl,h,0=>by
  have ih:=ju hT args h.2.1
  unfold evA
  split
  ·unfold opE
   split
   ·split
    ·exact ih 1
    exact ih 2
   exact ZcH _ (ih 0) (ih 1)
  unfold sgE
  split
  ·exact hT _
  split
  ·exact h.1
  unfold B64;omega
 | .cons _ _ _ _ _ _ tl,h,i+1=>ju hT tl h.2.2 i
theorem kV:∀(l:PL) (i:Nat) (f:PE),l.n64→l.at i=some f→f.n64
 | .cons k nm n d args a tl,0,f,h,e=>by injection e with e;subst e;exact⟨h.1,h.2.1⟩
 | .cons _ _ _ _ _ _ tl,i+1,f,h,e=>kV tl i f h.2.2 e
theorem jM (ps:List ByteArray) {al:List Int} (h:∀x∈al,B64 x) (nm:ByteArray):B64 (En ps al nm):=by
 unfold En
 cases hf:(ps.zip al).find? (fun p=>nm=p.1) with
 | none=>show B64 0;unfold B64;omega
 | some p=>exact h p.2 (List.of_mem_zip (List.mem_of_find?_eq_some hf)).2
theorem km {w:World} (nn:ByteArray) (ps:List ByteArray) (pa:Option Addr) (pc:Nat) (x2 x9:Int) (e:PE) (ad:Option Addr) (cap:Nat) (al:List Int) (aa:Option Addr) (ac:Nat) (hp:Jq w Value.string pa ps) (ha:Jq w (Value.int .i64) aa al) (hpl:ps.length≤100000) (hal:al.length≤100000)
  (hcap:e.args.len≤cap) (hs:SlA w (fun _=>True) e.args ad) (hsz:e.sz≤1000) (hn:e.n64) (h64:∀x∈al,B64 x) :
  Calls Tryz.prog 129 #[.agg #[.string nn,.slice pa ps.length pc,.int .i64 x2,.int .i64 e.k,.string e.nm,.int .i64 e.n,.int .i64 e.d,.slice ad e.args.len cap,.int .i64 e.a,.int .i64 x9],.slice aa al.length ac] w fun y w'=>y=.returned (.int .i64 (evE (En ps al) e))∧Below w.heap.size w w':=by
 obtain⟨k,nm,n,d,args,a⟩:=e
 have HT:=hid (fun W (hb:Below w.heap.size w W)=>qR (w:=W) ps al pa pc aa ac (hp.keep hb.block) (ha.keep hb.block) hpl hal)
 have HS:=hid hs
 have HN:=hid hn
 have H64:=hid h64
 have hmk:=fun w=>run_makeMap (P:=Tryz.prog) 247 w
 clear hp ha hs hn h64
 go_enter Tryz.func129,Tryz.ntmps129
 go_upto_region 1 with fail
 obtain⟨W,hW⟩:∃W,w.alloc (.cells #[.string nn,.slice pa ps.length pc,.int .i64 x2,.int .i64 k,.string nm,.int .i64 n,.int .i64 d,.slice ad args.len cap,.int .i64 a,.int .i64 x9] 94)=W:=⟨_,rfl⟩
 have hbx:=Yt w (.cells #[.string nn,.slice pa ps.length pc,.int .i64 x2,.int .i64 k,.string nm,.int .i64 n,.int .i64 d,.slice ad args.len cap,.int .i64 a,.int .i64 x9] 94)
 have hb0:Below w.heap.size w W:=by rw[←hW];exact(Zg _ _).alloc (Zc _) _
 have hsW:W.heap.size=w.heap.size+1:=by rw[←hW];simp
 rw[hW] at hbx
 rw[hW]
 clear hW
 have q1:W.cell? ⟨w.heap.size,1,none⟩=some (.slice pa ps.length pc):=by simp[World.cell?,hbx]
 have hst:=fun(a:Addr) (fn:Fn) c b (w:World)=>run_store Tryz.prog w a (.func fn c b) .plain rfl
 have HBX:=hid hbx
 have HB0:=hid hb0
 clear hbx hb0
 go_upto_region 2 with (go_at_call 151;refine(HT.out _ HB0.out).mono ?_;rintro y w1 ⟨tb,ma,La,rfl,htb,hma,hbt,hms,htv,hb1⟩;have HB1:=hid hb1;have HBT:=hid hbt;have HMS:=hid hms;have HTV:=hid htv;have hs1:=hb1.size;have hmlt:=hms.lt;have htlt:=Zb hbt;clear hbt hms htv hb1)
 obtain⟨rb,hrb⟩:∃rb,w1.heap.size+1=rb:=⟨_,rfl⟩
 obtain⟨W3,hW3⟩:∃W3,(w1.alloc (.map #[] 0)).alloc (.cells #[.func (.func 163) #[] #[.pointer (some ⟨tb,0,none⟩)],.map (some w1.heap.size)] 249)=W3:=⟨_,rfl⟩
 have h3:W3.heap[rb]?=some (.cells #[.func (.func 163) #[] #[.pointer (some ⟨tb,0,none⟩)],.map (some w1.heap.size)] 249 (0,0)):=by
  have h:=Yt (w1.alloc (.map #[] 0)) (.cells #[.func (.func 163) #[] #[.pointer (some ⟨tb,0,none⟩)],.map (some w1.heap.size)] 249)
  rw[Zt,hrb,hW3] at h
  exact h
 have hb3:Below w1.heap.size w1 W3:=by rw[←hW3];exact((Zg _ _).alloc (Zc _) _).alloc (by simp) _
 have hm3:Ja W3 w1.heap.size []:=by
  refine(Ja.new w1).keep ?_
  rw[←hW3]
  exact Za _ _ _ (by simp)
 have hbW:Below W.heap.size W W3:=HB1.out.trans (hb3.mono hs1)
 have hbw:Below w.heap.size w W3:=HB0.out.trans (hbW.mono HB0.out.size)
 have HRK:=hid (show RkM W3 rb tb ma w1.heap.size La [] from ⟨h3,(hb3.block tb htlt).trans HBT.out,HMS.out.below hb3,hm3,fun p hp=>by cases hp⟩)
 have hnb:=(hbW.block w.heap.size oq).trans HBX.out
 have HAT:=hid (show At W3 ⟨w.heap.size,3,none⟩ ⟨k,nm,n,d,args,a⟩ from ⟨w.heap.size,3,ad,cap,rfl,⟨_,_,hnb⟩,by simp[World.cell?,hnb],by simp[World.cell?,hnb],by simp[World.cell?,hnb],by simp[World.cell?,hnb],by simp[World.cell?,hnb],by simp[World.cell?,hnb],hcap,HS.out.keep ⟨hbw.size,fun b _ hb=>hbw.block b hb⟩⟩)
 have HVA:=hid (uz HRK.out oq HTV.out HAT.out hsz (R:=PE.n64) HN.out (fun e i f he hf=>kV _ _ _ he.2 hf) (fun e he i=>ju (jM ps H64.out) _ he.2 i))
 have HBW3:=hid hbw
 have hw3:=hbw.size
 have hws:w.heap.size≤w1.heap.size:=oq
 rw[hW3,hrb]
 clear hW3 h3 hb3 hm3 hbW hbw hnb hmk hst HT HS q1
 go_wp2_with (go_at_call 152;refine HVA.out.mono ?_;rintro y w4 ⟨rfl,hb4⟩;have HB4:=hid hb4;clear hb4)
 go_ret
 exact⟨rfl,HBW3.out.trans (HB4.out.below hw3 (fun k e=>oq))⟩
end Go.Proofs.YtlhlcdjiafdoeaaGreatDoor.syn
