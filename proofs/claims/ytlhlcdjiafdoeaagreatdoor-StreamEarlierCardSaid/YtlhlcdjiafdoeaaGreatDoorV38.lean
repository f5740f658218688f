/- Parts of the proof. -/
import Derived.Test.YtlhlcdjiafdoeaaGreatDoorV37
set_option linter.all false
set_option maxRecDepth 100000
set_option maxHeartbeats 16000000
namespace Go.Proofs.YtlhlcdjiafdoeaaGreatDoor.syn
open Go.RowKit Go.Shelf Go.Sort
def SdR (w:World) (b o:Nat) (x:SdD):Prop:=w.cell? ⟨b,o,none⟩=some (.int .i64 x.t)∧w.cell? ⟨b,o+1,none⟩=some (.int .i64 x.n)∧w.cell? ⟨b,o+2,none⟩=some (.int .i64 x.d)∧w.cell? ⟨b,o+3,none⟩=some (.int .i64 x.v)
theorem ZcN:Sta SdR:=fun w w' b o x hb hlt h=>by
 have hc:=fun o=>hb.cell (p:=⟨b,o,none⟩) hlt
 exact⟨(hc _).trans h.1,(hc _).trans h.2.1,(hc _).trans h.2.2.1,(hc _).trans h.2.2.2⟩
theorem vu {dl:List SdD} {t:Nat} (h:t<dl.length*4):(dl.flatMap encS)[t]?=some (encS dl.toArray[t/4]!)[t%4]!:=by
 induction dl generalizing t with
 | nil=>simp at h
 | cons x dl ih =>
  rw[List.flatMap_cons]
  by_cases ht:t<4
  ·rw[List.getElem?_append_left (show t<(encS x).length from ht)]
   have e1:t/4=0:=oq
   have e2:t%4=t:=oq
   rw[e1,e2]
   have:(x::dl).toArray[0]! = x:=rfl
   rw[this,getElem!_pos _ t (show t<(encS x).length from ht),Ze]
  rw[List.getElem?_append_right (show(encS x).length≤t by show 4≤t;omega)]
  have hl:(encS x).length=4:=rfl
  rw[hl,ih (t:=t-4) (by simp at h;omega)]
  have e1:t/4=(t-4)/4+1:=oq
  have e2:(t-4)%4=t%4:=oq
  rw[e1,e2]
  have h4:(t-4)/4<dl.length:=by simp at h;omega
  have:(x::dl).toArray[(t-4)/4+1]! = dl.toArray[(t-4)/4]!:=by
   rw[getElem!_pos _ _ (by simp;exact h4),getElem!_pos _ _ (by simpa using h4)]
   simp
  rw[this]
theorem Zbr {W:World} {base g c:Nat} {dl:List SdD} (h:W.ownsRow base 61 4 (.slice (some ⟨g,0,none⟩) dl.length c) dl.length (dl.flatMap encS)):HoldsK encS 4 W g 0 dl.toArray∧g<W.heap.size:=by
 rcases h.2 with ⟨e,_⟩|⟨g',cap,cur,e,hb,hg,hnc,hcm,hcs,htk⟩
 ·cases e
 injection e with e1 e2 e3
 injection e1 with e1
 injection e1 with e1
 subst e1
 refine⟨fun t ht=>?_,Zb hg⟩
 have ht':t<dl.length*4:=by simpa using ht
 rw[get_flatK _ _ _ _ (by simpa using ht'),ZC]
 refine⟨?_,by simp[World.frozen?,hg]⟩
 rw[Z5 W g t cur _ (0,0) hg,←Array.getElem?_toList]
 have h1:=vu ht'
 rw[←htk,Yl ht'] at h1
 exact h1
theorem ZaA {W:World} {g:Nat} {d:Array SdD} (h:HoldsK encS 4 W g 0 d) (hl:g<W.heap.size):Row SdR 4 W d.toList (some ⟨g,0,none⟩):=by
 refine .inr ⟨g,0,rfl,hl,fun i hi=>?_⟩
 have hi':i<d.size:=by simpa using hi
 have e:d[i]! = d.toList[i]:=by rw[getElem!_pos d i hi',Array.getElem_toList]
 have h0:=(h.cell hi' (c:=0) oq).1
 have h1:=(h.cell hi' (c:=1) oq).1
 have h2:=(h.cell hi' (c:=2) oq).1
 have h3:=(h.cell hi' (c:=3) oq).1
 rw[e] at h0 h1 h2 h3
 exact⟨h0,h1,h2,h3⟩
theorem gQ {w W':World} {blk off:Nat} {d:Array SdD} (h:SWK encS 4 w blk off d W'):But (fun b=>b=blk) w W':=by
 obtain⟨m,os,rfl⟩:=h
 refine⟨rfl,rfl,rfl,?_,fun b hb hne=>?_⟩
 ·simp[sortWorldK,putRowK,putRow,mapBlock,grow,ahead]
 unfold sortWorldK
 rw[heap_grow_old _ _ (by simpa [putRowK,putRow,mapBlock,ahead] using hb)]
 simp only[putRowK,putRow,mapBlock,ahead,Array.getElem?_modify]
 rw[ZZ (fun e=>hne e.symm)]
 rfl
theorem yZ {W:World} {base N cj:Nat} {ja:Option Addr} (dl:List SdD) (hN:dl.length=N) (hN2:N≤1000000000) (hbs:base≤W.heap.size) (hown:W.ownsRow base 61 4 (.slice ja N cj) N (dl.flatMap encS)) :
  Calls Tryz.prog 22 #[.slice ja N cj,.func (.func 23) #[] #[]] W fun e w'=>e=.returned (.tuple #[])∧(∃l:List SdD,l.length=N∧(l.Perm dl∧l.Pairwise (fun x y=>¬ltS y x))∧Row SdR 4 w' l ja)∧Below base W w':=by
 subst hN
 rcases hown.2 with ⟨e,hn⟩|⟨g,cap,cur,e,hb,hg,_⟩
 ·rw[hn]
  refine(zh ja cj W).mono ?_
  rintro y w' ⟨rfl,rfl⟩
  have hd:dl=[]:=Yb hn
  subst hd
  exact⟨rfl,⟨[],rfl,⟨List.Perm.refl _,List.Pairwise.nil⟩,.inl rfl⟩,Zg _ _⟩
 injection e with e1 e2 e3
 subst e1
 obtain⟨hH,hl⟩:=Zbr hown
 have h:=zi g 0 cj dl.toArray W hH hl (by simp;omega)
 rw[ZH] at h
 refine h.mono ?_
 rintro y w' ⟨rfl,d',⟨hp,hs⟩,hsw⟩
 have hlen:d'.toList.length=dl.length:=by have:=hp.length_eq;simpa using this
 refine⟨rfl,⟨d'.toList,hlen,⟨by simpa using hp,hs⟩,ZaA (hsw.holds hl hH (by simpa using hlen)) (hsw.lt hl)⟩,(gQ hsw).below hbs (fun k hk=>by rw[hk];exact hb)⟩
def uL (f:FD) (nds:List NE) (inl:List (List Int)) (u:Int) (x:Ending) (w':World):Prop :=
 (JK f u=0∧∃l ad cap,Ez f inl (J1 f nds inl u) u l∧x=.returned (.tuple #[.slice ad l.length cap,.int .i64 0])∧Row SdR 4 w' l ad)∨(JK f u≠0∧x=.returned (.tuple #[.slice none 0 0,.int .i64 (JK f u)]))
theorem Kz {f:FD} {u:Int} (h:JK f u=0):YQ f=true∧(0≤u∧u≤20000)∧∃l,ofP f=some l:=by
 unfold JK at h
 split at h
 ·rename_i hc
  cases ho:ofP f with
  | none=>rw[ho] at h;cases h
  | some l=>exact⟨hc.1,hc.2,l,rfl⟩
 cases h
theorem ye (p q u:Int):0≤XO p q u:=by
 unfold XO
 split
 ·rename_i h
  have h1:=(JB h.1)
  rw[Int.tdiv_eq_ediv_of_nonneg oq]
  have:=Int.ediv_nonneg (show 0≤u-1-q by omega) (show 0≤p by omega)
  omega
 exact Int.le_refl _
theorem ZaF {f:FD} {a:AD} {cp cf:Int} (h:X4 f a cp cf=true):0≤a.src∧a.src<((f.ins.length+f.tasks.length:Nat):Int):=by
 have h1:=(Ky h).2.1
 unfold Q2 at h1
 by_cases h0:a.src<0
 ·rw[Z0 h0] at h1;cases h1
 rw[ZZ h0] at h1
 by_cases h2:a.src<(f.ins.length:Int)
 ·exact⟨oq,oq⟩
 rw[ZZ h2] at h1
 rw[Option.isSome_map] at h1
 obtain⟨d,hd⟩:=Option.isSome_iff_exists.1 h1
 have:=(Zz.1 hd).1
 exact⟨oq,oq⟩
theorem qN (ni:Nat) (inl vals:List (List Int)) (i:Nat) (x:LD) (n:Nat):QJ ni inl vals i x (n+1)=QJ ni inl vals i x n++[U1 ni inl vals i x n]:=by unfold QJ;rw[List.range_succ,ZT];rfl
theorem uf {f:FD} {inl vals:List (List Int)} {u:Int} {k:Nat} {x:LD} (hx:f.tells[k]?=some x):Xx f inl vals u (k+1)=Xx f inl vals u k++QJ f.ins.length inl vals k x (Qz x u):=by rw[Xx,hx]
theorem Kx {f:FD} (hR:RgS f) {u:Int} (hu:u≤20000) {i:Nat} {x:LD} (hx:f.tells[i]?=some x):Qz x u≤20001:=by
 apply Yf
 intro h
 have:=Jt hR hu hx (n:=20001) oq
 omega
theorem uo {f:FD} (hR:RgS f) {inl vals:List (List Int)} {u:Int} (hu:u≤20000) (k:Nat):(match f.tells[k]? with|none=>[]|some x=>QJ f.ins.length inl vals k x (Qz x u)).length≤20001:=by
 split
 ·simp
 rename_i x hx
 rw[QJ,Zo,List.length_range]
 exact Kx hR hu hx
theorem Gm {f:FD} (hR:RgS f) {inl vals:List (List Int)} {u:Int} (hu:u≤20000):∀k,(Xx f inl vals u k).length≤k*20001
 | 0=>Zk _
 | k+1=>by
  have h1:=Gm hR (inl:=inl) (vals:=vals) hu k
  have h2:=uo hR (inl:=inl) (vals:=vals) hu k
  rw[Xx,Zw]
  refine Zm (Nat.add_le_add h1 h2) ?_
  omega
structure SyW (W2 W:World) (v:Value) (d:List SdD):Prop where
 low:Below W2.heap.size W2 W
 own:W.ownsRow W2.heap.size 61 4 v d.length (d.flatMap encS)
theorem SyW.below {W2 W W':World} {v:Value} {d:List SdD} (h:SyW W2 W v d) (hb:Below W.heap.size W W'):SyW W2 W' v d:=⟨h.low.trans (hb.mono h.low.size),own_below h.own hb⟩
def S5 (b:Nat) (p q s:Int) (sl:Value) (dl:Int) (w':World):Prop:=w'.cell? ⟨b,0,none⟩=some (.int .i64 p)∧w'.cell? ⟨b,1,none⟩=some (.int .i64 q)∧w'.cell? ⟨b,2,none⟩=some (.int .i64 s)∧w'.cell? ⟨b,3,none⟩=some sl∧w'.cell? ⟨b,4,none⟩=some (.int .i64 dl)
theorem Vb {b:Nat} {p q s dl:Int} {sl:Value} {W W':World} (h:S5 b p q s sl dl W) (hb:W'.heap[b]?=W.heap[b]?):S5 b p q s sl dl W':=by
 have k:=fun o=>Zn (w:=W) (w':=W') (a:=⟨b,o,none⟩) hb
 exact⟨(k _).trans h.1,(k _).trans h.2.1,(k _).trans h.2.2.1,(k _).trans h.2.2.2.1,(k _).trans h.2.2.2.2⟩
theorem kH:(Tryz.prog.info? 61).map (fun i=>(i.zero,i.size,i.bytes))=some (some (.agg #[.int .i64 0,.int .i64 0,.int .i64 0,.int .i64 0]),4,32):=by kernel_rfl
theorem eN {w:World} {b:Nat} {v0 v1 v2 v3 v4:Value} {t:TypeId} (h:w.heap[b]?=some (.cells #[v0,v1,v2,v3,v4] t (0,0))) :
  w.cell? ⟨b,0,none⟩=some v0∧w.cell? ⟨b,1,none⟩=some v1∧w.cell? ⟨b,2,none⟩=some v2∧w.cell? ⟨b,3,none⟩=some v3∧w.cell? ⟨b,4,none⟩=some v4:=by
 refine⟨?_,?_,?_,?_,?_⟩
 all_goals simp[World.cell?,h]
theorem gE {w:World} (f:FD) (ai an aT al:Option Addr) (ci cn ct cl:Nat) (hf:FAP w f ai an aT al) (nds:List NE) (hn:xC w f an nds) (inl:List (List Int)) (ain:Option Addr) (cin:Nat) (hin:Qj w ain inl) {m':Nat} (hbi:Bv m' inl) (u:Int) :
  Calls Tryz.prog 9 #[fv f ai an aT al ci cn ct cl,.slice ain inl.length cin,.int .i64 u] w fun x w'=>uL f nds inl u x w'∧Below w.heap.size w w':=by
 have HRK:=hid (fun W (hb:Below w.heap.size w W)=>yr (w:=W) f ai an aT al ci cn ct cl (hf.below hb) nds (hn.below hb) inl ain cin (hin.keep hb.block) hbi u)
 have HF:=hid hf
 have HIN:=hid hin
 clear hf hn hin hbi
 unfold fv at *
 obtain⟨W1,hW1⟩:∃W1,w.alloc (.cells #[.slice ai f.ins.length ci,.slice an f.nods.length cn,.slice aT f.tasks.length ct,.slice al f.tells.length cl] 35)=W1:=⟨_,rfl⟩
 have hB:Below w.heap.size w W1:=by rw[←hW1];exact bq
 have hq0:W1.heap[w.heap.size]?=some (.cells #[.slice ai f.ins.length ci,.slice an f.nods.length cn,.slice aT f.tasks.length ct,.slice al f.tells.length cl] 35 (0,0)):=by rw[←hW1];exact Yt w _
 obtain⟨⟨x0,x1,x2,x3⟩,xf⟩:=Yu hq0
 have HQ:=hid hq0
 have HB:=hid hB
 have hl0:w.heap.size<W1.heap.size:=Zb hq0
 clear hB hq0
 obtain⟨er,her⟩:∃er,JK f u=er:=⟨_,rfl⟩
 by_cases he:er=0
 ·subst he
  have HRY:=hid (fun W (hb:Below w.heap.size w W)=>(HRK.out W hb).mono (fun x w' h=>Zh (Zay h.1 her) h.2))
  obtain⟨hri,hu,lo,hlo⟩:=Kz her
  have hR:=Va hri
  have HRG:=hid hR
  obtain⟨va,hva⟩:∃va,J1 f nds inl u=va:=⟨_,rfl⟩
  have hvl:va.length=f.tasks.length:=by rw[←hva];exact ux _ _ _ _
  rw[hva] at HRY
  have HVA:=hid (Zh her hva)
  have HVN:=hid hvl
  have HLN:=hid (fun k=>Gm hR (inl:=inl) (vals:=va) hu.2 k)
  clear hri hlo hR hva her HRK hvl
  go_enter Tryz.func9,Tryz.ntmps9
  go_upto_region 1 with fail
  first|rw[hW1]|skip
  clear hW1
  go_upto_region 5 with (go_at_call 19;refine(HRY.out _ HB.out).mono ?_;rintro x w2 ⟨⟨wI,W0,mb,vb,ai2,an2,aT2,ci2,cn2,ct2,cin2,cv2,vs,rfl,hlow,hst,hbv⟩,hb2⟩;have HMN:=hid (hst.mnr (HIN.out.keep ((HB.out.trans (hlow.mono HB.out.size)).block)));have HB2:=hid (HB.out.trans (hb2.mono HB.out.size));have hz2:=hb2.size;obtain⟨⟨y0,y1,y2,y3⟩,yf⟩:=Yu ((hb2.block _ hl0).trans HQ.out);clear hb2 hst hlow hbv)
  clear x0 x1 x2 x3 xf HRY HQ
  obtain⟨W2,rfl⟩:∃W2:World,W2=w2:=⟨_,rfl⟩
  have HTL:=hid (HF.out.below HB2.out).tells
  have hlens:=HF.out.lens
  have HTP:=hid HF.out.tops
  have hz3:w.heap.size<W2.heap.size:=oq
  have HHV:=hid (fun(W:World) (hb:Below W2.heap.size W2 W)=>HMN.out.keep hb.block)
  go_wp2
  go_loopw [10,27] (fun s10 s27 wr=>Hid (∃i:Nat,s27=.int .i64 (i:Int)∧i≤f.tells.length∧SyW W2 wr s10 (Xx f inl va u i))) (fun _ s27 _=>f.tells.length-(intOf s27).toNat)
  case atStart=>exact⟨0,rfl,Zk _,⟨Zg _ _,Yd _ _ _ _⟩⟩
  obtain⟨W3,rfl⟩:∃W3:World,W3=wr:=⟨_,rfl⟩
  obtain⟨i,rfl,hi,hsy⟩:=hrel.out
  clear hrel
  obtain⟨ja,jc,rfl⟩:=YD hsy.own
  have HSY:=hid hsy
  have hz4:=hsy.low.size
  by_cases hil:i<f.tells.length
  ·have i0:(0:Int)≤(i:Int):=oq
   have i1:(i:Int)<(f.tells.length:Int):=oq
   obtain⟨x,hx⟩:∃x,f.tells[i]?=some x:=⟨_,Ze hil⟩
   have hxi:f.tells[i]=x:=(Zz.1 hx).2
   obtain⟨bl,ol,rfl,hbl,hcl⟩:=HTL.out.resolve_left (fun e=>by rw[e] at hil;simp at hil)
   obtain⟨u0,u1,u2,u4,ta,tc,u3,hops⟩:=hcl i hil
   rw[hxi] at u0 u1 u2 u3 u4 hops
   have hcw:=fun o=>hsy.low.cell (p:=⟨bl,o,none⟩) hbl
   have t0:=(hcw _).trans u0
   have t1:=(hcw _).trans u1
   have t2:=(hcw _).trans u2
   have t3:=(hcw _).trans u3
   have t4:=(hcw _).trans u4
   obtain⟨hd,hfit,hc⟩:=HRG.out.tel i x hx
   have hsr:=ZaF hfit
   have hol:=(HTP.out x (Z8 hx)).1
   have hcn:=Kx HRG.out hu.2 hx
   have hnn:=ye x.per x.ph (u-x.dl+1)
   obtain⟨N,hN⟩:∃N,Qz x u=N:=⟨_,rfl⟩
   have hjN:XO x.per x.ph (u-x.dl+1)=(N:Int):=by rw[←hN];unfold Qz;omega
   obtain⟨sn,hsn⟩:∃sn:Nat,x.arg.src=(sn:Int):=⟨x.arg.src.toNat,oq⟩
   rw[hsn] at t2
   have hsb:sn<f.ins.length+f.tasks.length:=oq
   have hNb:N≤20001:=oq
   have HJ:=hid (fun(W:World)=>KR x.per x.ph (u-x.dl+1) W)
   rw[hjN] at HJ
   have HOP:=hid (jG hops)
   have HDV:=hid (fun(W:World) (n:Nat) (hn:n<N)=>Zh (Jt HRG.out hu.2 hx (n:=n) oq) (V3 x.per x.ph (n:Int) W))
   have HDE:=hid (fun(n:Nat) (hn:n≤100000)=>QT hc (n:=n) hn)
   have e1:IntKind.i64.wrap (u-x.dl)=u-x.dl:=ZJ _ oq
   have e2:IntKind.i64.wrap (u-x.dl+1)=u-x.dl+1:=ZJ _ oq
   have HX:=hid (Zh hx (Zh hN hsn))
   have hlen:=HLN.out i
   have hti:=Nat.mul_le_mul_right 20001 (show i≤1000 by omega)
   clear hops hfit hnn hjN hcl hsy hN hsn hx hxi HTL u0 u1 u2 u3 u4 hcw hsr hcn
   go_upto_region 8 with fail
   obtain⟨W4,hW4⟩:∃W4,W3.alloc (.cells #[.int .i64 x.per,.int .i64 x.ph,.int .i64 (sn:Int),.slice ta x.arg.ops.length tc,.int .i64 x.dl] 77)=W4:=⟨_,rfl⟩
   rw[hW4]
   have hb4:Below W3.heap.size W3 W4:=by rw[←hW4];exact(Zg _ _).alloc (Zc _) _
   have hq4:W4.heap[W3.heap.size]?=some (.cells #[.int .i64 x.per,.int .i64 x.ph,.int .i64 (sn:Int),.slice ta x.arg.ops.length tc,.int .i64 x.dl] 77 (0,0)):=by rw[←hW4];exact Yt W3 _
   have hlt4:=Zb hq4
   obtain⟨z0,z1,z2,z3,z4⟩:=eN hq4
   have HB4:=hid hb4
   have HS5:=hid (show S5 W3.heap.size x.per x.ph (sn:Int) (.slice ta x.arg.ops.length tc) x.dl W4 from ⟨z0,z1,z2,z3,z4⟩)
   clear t0 t1 t2 t3 t4 hW4 hb4 hq4
   go_upto_region 9 with (go_at_call 13;refine(HJ.out _).mono ?_;rintro y w5 ⟨rfl,hb5⟩;have HB5:=hid (HB4.out.trans (hb5.mono HB4.out.size));have HK5:=hid (Vb HS5.out (hb5.block _ hlt4));have hz5:=hb5.size;clear hb5)
   clear z0 z1 z2 z3 z4 HS5 HB4
   obtain⟨W5,rfl⟩:∃W5:World,W5=w5:=⟨_,rfl⟩
   have HS0:=hid (HSY.out.below HB5.out)
   have HNE:=hid (show ∀k,(Value.slice ja (Xx f inl va u i).length jc).ownBlock=some k→k≠W3.heap.size from fun k hk e=>by
    rcases HSY.out.own.2 with ⟨h1,_⟩|⟨g,cap,cur,h1,_,hg,_⟩
    ·injection h1 with h1;subst h1;cases hk
    injection h1 with h1
    subst h1
    injection hk with hk
    have h3:g<W3.heap.size:=Zb hg
    have h4:g=k:=hk
    omega)
   clear HSY
   go_wp2
   go_loopw [10,40] (fun s10 s40 wr=>Hid (∃n:Nat,s40=.int .i64 (n:Int)∧n≤N∧SyW W2 wr s10 (Xx f inl va u i++QJ f.ins.length inl va i x n)∧(∀k,s10.ownBlock=some k→k≠W3.heap.size)∧W3.heap.size<wr.heap.size∧S5 W3.heap.size x.per x.ph (sn:Int) (.slice ta x.arg.ops.length tc) x.dl wr)) (fun _ s40 _=>N-(intOf s40).toNat)
   case atStart=>exact⟨0,rfl,Zk _,by simpa [QJ] using HS0.out,HNE.out,oq,HK5.out⟩
   obtain⟨wo,rfl⟩:∃wo:World,wo=wr:=⟨_,rfl⟩
   obtain⟨n,rfl,hnN,hsy,hne,hlt,hk5⟩:=hrel.out
   clear hrel
   obtain⟨a,c,rfl⟩:=YD hsy.own
   have HSY:=hid hsy
   have HK0:=hid hk5
   by_cases hnl:n<N
   ·have n1:(n:Int)<(N:Int):=oq
    have hzo:=hsy.low.size
    obtain⟨hle,HD0⟩:=HDV.out wo n hnl
    have hde:=HDE.out n oq
    obtain⟨ln,hln⟩:∃ln,(Xx f inl va u i++QJ f.ins.length inl va i x n).length=ln:=⟨_,rfl⟩
    have hlb:ln≤30000000:=by rw[←hln,Zw];simp[QJ];omega
    obtain⟨dt,hdt⟩:∃dt,Jg x.per x.ph (n:Int)=dt:=⟨_,rfl⟩
    obtain⟨vv,hvv⟩:∃vv,UH f.ins.length inl va sn x.arg.ops (n:Int)=vv:=⟨_,rfl⟩
    have HDA:=hid (fun(W:World)=>V3 x.per x.ph (n:Int) W)
    rw[hdt] at HDA hde
    have HVL:=hid (fun(W:World) (hb:Below W2.heap.size W2 W)=>yw (HHV.out W hb) (by have:=HVN.out;omega) sn (by have:=HVN.out;omega) x.arg.ops ta tc oq (HOP.out.below hb (Zc _)) (n:Int))
    rw[hvv] at HVL
    have hp0:0≤(n:Int)*x.per:=Int.mul_nonneg oq oq
    have hdb:0≤dt∧dt≤20000:=oq
    have HEQ:=hid (show U1 f.ins.length inl va i x n=⟨(i:Int),(n:Int),dt+x.dl,vv⟩ by unfold U1;rw[HX.out.2.2,ZP,hdt,hvv])
    have e3:IntKind.i64.wrap (dt+x.dl)=dt+x.dl:=ZJ _ oq
    have HLL:=hid hln
    rw[hln] at hsy hne ⊢
    have HNE2:=hid hne
    clear hne
    have HOW:=hid (show wo.ownsRow W2.heap.size 61 4 (.slice a ln c) ln ((Xx f inl va u i++QJ f.ins.length inl va i x n).flatMap encS) from(by have h:=hsy.own;rw[HLL.out] at h;exact h))
    have HLO:=hid hsy.low
    obtain⟨i0',hi0',hi1',hi2',hi3'⟩:=info_parts kH
    have HI:=hid (Zh hi0' (Zh hi1' (Zh hi2' hi3')))
    clear hi0' hi1' hi2' hi3' hsy hde hln hdt hvv hp0 HD0 hk5
    go_upto_region 11 with fail
    have KA:=hid (show S5 W3.heap.size x.per x.ph (sn:Int) (.slice ta x.arg.ops.length tc) x.dl wo.drew from Vb HK0.out rfl)
    have HBD:=hid (show Below wo.heap.size wo wo.drew from(Zg _ _).drew)
    refine ZN (S:=S5 W3.heap.size x.per x.ph (sn:Int) (.slice ta x.arg.ops.length tc) x.dl) kq (by first|with_reducible exact KA.out|with_reducible exact KB.out|with_reducible exact KB2.out|with_reducible exact KBA.out _|with_reducible exact KC.out) (fun hHeld=>?_)
    refine tk 0 hHeld ?_
    refine tk 1 hHeld ?_
    refine tk 2 hHeld ?_
    refine tk 3 hHeld ?_
    refine tk 4 hHeld ?_
    refine tk 5 hHeld ?_
    refine tk 7 hHeld ?_
    refine tk 8 hHeld ?_
    refine tk 10 hHeld ?_
    refine tk 11 hHeld ?_
    refine tk 12 hHeld ?_
    refine tk 13 hHeld ?_
    refine ry 6 fun K hK=>?_
    (go_simp;go_at_call 20;refine(HDA.out _).mono ?_;rintro y w5 ⟨rfl,hbx⟩;have hby:Below wo.heap.size wo w5:=HBD.out.trans (hbx.mono HBD.out.size);have HB5:=hid hby;have hzw5:=hby.size;have KB:=hid (Vb HK0.out (hby.block W3.heap.size hlt));clear hbx hby)
    refine hK.out _ _ (fun hHeld=>?_) (by first|with_reducible exact KA.out|with_reducible exact KB.out|with_reducible exact KB2.out|with_reducible exact KBA.out _|with_reducible exact KC.out)
    clear hK K
    refine tk 9 hHeld ?_
    refine ry 14 fun K hK=>?_
    (go_simp;go_at_call 21;refine(HVL.out _ (HLO.out.trans (HB5.out.mono hzo))).mono ?_;rintro y w6 ⟨rfl,hbx⟩;have hby:Below wo.heap.size wo w6:=HB5.out.trans (hbx.mono HB5.out.size);have HB6:=hid hby;have hzw6:=hby.size;have KB2:=hid (Vb HK0.out (hby.block W3.heap.size hlt));have KBA:=hid (fun(o:Obj)=>Vb KB2.out (Za w6 o W3.heap.size oq));clear hbx hby)
    refine hK.out _ _ (fun hHeld=>?_) (by first|with_reducible exact KA.out|with_reducible exact KB.out|with_reducible exact KB2.out|with_reducible exact KBA.out _|with_reducible exact KC.out)
    clear hK K
    refine tk 15 hHeld ?_
    refine ry 16 fun K hK=>?_
    go_simp
    refine hK.out _ _ (fun hHeld=>?_) (by first|with_reducible exact KA.out|with_reducible exact KB.out|with_reducible exact KB2.out|with_reducible exact KBA.out _|with_reducible exact KC.out)
    clear hK K
    refine ry 17 fun K hK=>?_
    (refine step_append_lies _ (by rfl) _ _ _ (by rfl) W2.heap.size 61 i0' _ 4 32 Tryz.underlying41 HI.out.1 HI.out.2.1 HI.out.2.2.1 HI.out.2.2.2 rfl oq (.slice a ln c) ln ((Xx f inl va u i++QJ f.ins.length inl va i x n).flatMap encS) (by rfl) (own_below HOW.out (HB6.out.alloc HB6.out.size _)) ⟨w6.heap.size,0,none⟩ 1 1 [.int .i64 (i:Int),.int .i64 (n:Int),.int .i64 (dt+x.dl),.int .i64 vv] (by rfl) (by rfl) (World.news_of_block (Zy _ _)) (by simp[Value.oneCell']) oq (by unfold maxLen;omega) oq (by simp;omega) (w6.heap.size+1) (by simp) ?_;intro gg cap4 w4 hown4 hgrow4 hat4 hlt4;have hbt4:But (fun k=>(Value.slice a ln c).ownBlock=some k) w6 w4:=(But.of_below ((Zg _ _).alloc (Zc _) _)).then (But.of_grown hgrow4) (fun i _ e=>e);have KC:=hid (Vb KB2.out (hbt4.block W3.heap.size oq (fun e=>HNE2.out _ e rfl)));have HO4:=hid hown4;have HBT4:=hid hbt4;have hz4b:=hbt4.size;have HG4:=hid hat4;clear hown4 hgrow4 hat4 hbt4)
    refine hK.out _ _ (fun hHeld=>?_) (by first|with_reducible exact KA.out|with_reducible exact KB.out|with_reducible exact KB2.out|with_reducible exact KBA.out _|with_reducible exact KC.out)
    clear hK K
    refine tk 18 hHeld ?_
    refine Zx kq ?_ _
    have HSN:=hid (show SyW W2 w4 (.slice (some ⟨gg,0,none⟩) (ln+1) cap4) (Xx f inl va u i++QJ f.ins.length inl va i x (n+1)) from ⟨(HLO.out.trans (HB6.out.mono hzo)).trans (HBT4.out.below oq (fun k hk=>YW HOW.out k hk)),by rw[qN,←List.append_assoc,HEQ.out,Zw,List.flatMap_append,HLL.out];exact HO4.out⟩)
    go_wp2_with fail
    exact⟨hid ⟨n+1,by go_num,hnl,HSN.out,fun k hk e=>(by have e2:gg=k:=(by injection hk);subst e2;rcases HG4.out with h|h;(first|exact HNE2.out _ h e|omega);(first|exact HNE2.out _ h e|omega)),oq,KC.out⟩,by simp[intOf];omega⟩
   obtain rfl:n=N:=oq
   have n1:¬(n:Int)<(n:Int):=oq
   go_wp2
   exact⟨hid ⟨i+1,by go_num,hil,by rw[uf HX.out.1,HX.out.2.1];exact HSY.out⟩,by simp[intOf];omega⟩
  obtain rfl:i=f.tells.length:=oq
  have i1:¬(f.tells.length:Int)<(f.tells.length:Int):=oq
  obtain⟨N,hN⟩:∃N,(Xx f inl va u f.tells.length).length=N:=⟨_,rfl⟩
  have HS:=hid (yZ (W:=W3) (base:=W2.heap.size) (ja:=ja) (cj:=jc) (Xx f inl va u f.tells.length) hN (by have:=HLN.out f.tells.length;have:=Nat.mul_le_mul_right 20001 (show f.tells.length≤1000 by omega);omega) hz4 (by rw[←hN];exact hsy.own))
  rw[hN]
  clear hsy
  go_wp2_with (go_at_call 22;refine HS.out.mono ?_;rintro y w6 ⟨rfl,⟨l,hll,hpl,hrl⟩,hb6⟩;have HB6:=hid hb6;have HPL:=hid hpl;have HRL:=hid hrl;clear hb6 hpl hrl)
  go_ret2
  refine⟨.inl ⟨HVA.out.1,l,ja,jc,?_,by rw[hll];rfl,HRL.out⟩,HB2.out.trans ((HSY.out.low.trans HB6.out).mono HB2.out.size)⟩
  rw[HVA.out.2]
  exact HPL.out
 have HRY:=hid (fun W (hb:Below w.heap.size w W)=>(HRK.out W hb).mono (fun x w' h=>Zh (ZbM h.1 (by rw[her];exact he)) h.2))
 rw[her] at HRY
 have hne:(er != 0)=true:=bne_iff_ne.2 he
 have HE:=hid her
 have HN0:=hid he
 go_enter Tryz.func9,Tryz.ntmps9
 go_upto_region 1 with fail
 first|rw[hW1]|skip
 clear hW1 HRK her he
 go_wp2_with (go_at_call 19;refine(HRY.out _ HB.out).mono ?_;rintro x w2 ⟨rfl,hb2⟩;have HB2:=hid hb2;clear hb2)
 go_ret2
 exact⟨Or.inr ⟨by rw[HE.out];exact HN0.out,by rw[HE.out];rfl⟩,HB.out.trans (HB2.out.mono HB.out.size)⟩
end Go.Proofs.YtlhlcdjiafdoeaaGreatDoor.syn
