/- Parts of the proof. -/
import Derived.Test.YtlhlcdjiafdoeaaGreatDoorV01
import Derived.Test.YtlhlcdjiafdoeaaGreatDoorV04
set_option linter.all false
set_option maxRecDepth 100000
set_option maxHeartbeats 16000000
namespace Go.Proofs.YtlhlcdjiafdoeaaGreatDoor.syn
open Go.RowKit
inductive TT where
 | unk
 | ok (p f:Int)
 | bad (a e:Int)
def cvv (c:Int × Int):Value:=.agg #[.int .i64 c.1,.int .i64 c.2]
def TT.v:TT→Value
 | .unk=>.agg #[.int .i64 0,.int .i64 0,.bool false,.int .i64 0,.int .i64 0]
 | .ok p f=>.agg #[.int .i64 p,.int .i64 f,.bool true,.int .i64 0,.int .i64 0]
 | .bad a e=>.agg #[.int .i64 0,.int .i64 0,.bool false,.int .i64 a,.int .i64 e]
abbrev Env:Type:=ByteArray→Option (Int × Int)
def Xt (L:List (ByteArray × Value)) (env:Env):Prop:=∀nm,YT nm L=(env nm).map cvv
def XQ (env:Env) (k:Int) (nm:ByteArray) (n d a:Int) (src:TT):TT :=
 if k=1 then match env nm with|some c=>.ok c.1 c.2|none=>.unk
 else match src with
  | .ok p f=>if k=2 then .ok p f else if (clock.YC p f k n d).2.2=0 then .ok (clock.YC p f k n d).1 (clock.YC p f k n d).2.1 else .bad a (clock.YC p f k n d).2.2
  | .unk=>.unk
  | .bad a e=>.bad a e
def Xn (env:Env):PL→TT
 | .nil=>.unk
 | .cons k nm n d args a tl=>match XQ env k nm n d a (Xn env args) with
  | .unk=>Xn env tl
  | .ok p f=>.ok p f
  | .bad a e=>.bad a e
def Qg (env:Env) (e:PE):TT:=XQ env e.k e.nm e.n e.d e.a (Xn env e.args)
def Qx (env:Env) (L:List (ByteArray × Value)) (e:PE):Prop:=∀(w:World) (ad:Option Addr) (cap mb:Nat),AE w e ad cap→YJ w mb L →
 Calls Tryz.prog 70 #[.map (some mb),.agg #[.int .i64 e.k,.string e.nm,.int .i64 e.n,.int .i64 e.d,.slice ad e.args.len cap,.int .i64 e.a]] w fun x w'=>x=.returned (Qg env e).v∧Below w.heap.size w w'
def Jc (env:Env) (L:List (ByteArray × Value)) (l:PL):Prop:=∀(w:World) (ad:Option Addr) (cap mb:Nat),AS w l ad→l.len≤cap→cap≤9223372036854775807→YJ w mb L →
 Calls Tryz.prog 112 #[.map (some mb),.slice ad l.len cap] w fun x w'=>x=.returned (Xn env l).v∧Below w.heap.size w w'
theorem uq {env:Env} {L:List (ByteArray × Value)} (hE:Xt L env) (e:PE) (hF:Jc env L e.args):Qx env L e:=by
 intro w ad cap mb hae hM
 obtain⟨k,nm,n,d,args,a⟩:=e
 have hlen:=hae.len
 simp only at hlen hF ⊢
 unfold Jc at hF
 have HA:=hid hae
 have HM:=hid hM
 have HF:=hid hF
 clear hae hM hF
 obtain⟨r,hr⟩:∃r,Qg env ⟨k,nm,n,d,args,a⟩=r:=⟨_,rfl⟩
 rw[hr]
 unfold Qg at hr
 simp only at hr
 by_cases hk1:k=1
 ·subst hk1
  unfold XQ at hr;rw[Z0 rfl] at hr
  cases he:env nm with
  | none =>
   rw[he] at hr
   have hg:YT nm L=none:=by rw[hE nm,he];rfl
   subst hr
   clear hE he
   have HG:=hid hg
   clear hg
   go_enter Tryz.func70,Tryz.ntmps70
   go_wp2_with (at_lookup;refine Y4 Xc _ rfl _ _ rfl mb L nm rfl rfl (HM.out.below bq) HG.out ?_)
   refine Zl (v:=TT.unk.v) (by simp only[results,Tryz.results70];go_simp;try rfl) rfl ⟨?_,?_⟩
   ·rfl
   exact bq
  | some c =>
   rw[he] at hr
   have hg:YT nm L=some (.agg #[.int .i64 c.1,.int .i64 c.2]):=by rw[hE nm,he];rfl
   obtain⟨c1,c2⟩:=c
   subst hr
   clear hE he
   have HG:=hid hg
   clear hg
   go_enter Tryz.func70,Tryz.ntmps70
   go_wp2_with (at_lookup;refine Xy Xc _ rfl _ _ rfl mb L nm _ rfl rfl (HM.out.below bq) HG.out ?_)
   refine Zl (v:=(TT.ok c1 c2).v) (by simp only[results,Tryz.results70];go_simp;try rfl) rfl ⟨?_,?_⟩
   ·rfl
   exact bq
 have hk1':(k == 1)=false:=ZW.2 hk1
 unfold XQ at hr;rw[ZZ hk1] at hr
 clear hE
 cases hs:Xn env args with
 | unk =>
  rw[hs] at hr HF
  simp only at hr
  subst hr
  simp only[TT.v] at HF
  clear hk1
  by_cases hk2:k=2
  ·subst hk2
   go_enter Tryz.func70,Tryz.ntmps70
   repeat' (first|(go_at_call 112;(with_reducible refine(HF.out _ _ _ _ (HA.out.args.below bq) HA.out.len.1 HA.out.len.2 (HM.out.below bq)).mono ?_);rintro x w2 ⟨rfl,hb2⟩;obtain⟨hc2,hf2⟩:=Yx hb2;have a2:w.heap.size<w2.heap.size:=Yv hb2 oq;have a3:w.heap.size+1<w2.heap.size:=Yv hb2 oq)|go_values|go_skip|go_guarded|go_step|go_upon|(simp only[Int.not_lt,Int.not_le] at *;go_simp)|(go_values<;>(try go_simp))|(go_ite<;>go_prune<;>(try go_simp))|(split<;>(first|(rename_i hx;exact(hx _ rfl).elim)|go_prune)))
   refine Zl (v:=TT.unk.v) (by simp only[results,Tryz.results70];go_simp;try rfl) rfl ⟨?_,?_⟩
   ·rfl
   exact bq
  have hk2':(k == 2)=false:=ZW.2 hk2
  clear hk2
  go_enter Tryz.func70,Tryz.ntmps70
  repeat' (first|(go_at_call 112;(with_reducible refine(HF.out _ _ _ _ (HA.out.args.below bq) HA.out.len.1 HA.out.len.2 (HM.out.below bq)).mono ?_);rintro x w2 ⟨rfl,hb2⟩;obtain⟨hc2,hf2⟩:=Yx hb2;have a2:w.heap.size<w2.heap.size:=Yv hb2 oq;have a3:w.heap.size+1<w2.heap.size:=Yv hb2 oq)|go_values|go_skip|go_guarded|go_step|go_upon|(simp only[Int.not_lt,Int.not_le] at *;go_simp)|(go_values<;>(try go_simp))|(go_ite<;>go_prune<;>(try go_simp))|(split<;>(first|(rename_i hx;exact(hx _ rfl).elim)|go_prune)))
  refine Zl (v:=TT.unk.v) (by simp only[results,Tryz.results70];go_simp;try rfl) rfl ⟨?_,?_⟩
  ·rfl
  exact bq
 | bad a1 e1 =>
  rw[hs] at hr HF
  simp only at hr
  subst hr
  simp only[TT.v] at HF
  clear hk1
  by_cases hk2:k=2
  ·subst hk2
   go_enter Tryz.func70,Tryz.ntmps70
   repeat' (first|(go_at_call 112;(with_reducible refine(HF.out _ _ _ _ (HA.out.args.below bq) HA.out.len.1 HA.out.len.2 (HM.out.below bq)).mono ?_);rintro x w2 ⟨rfl,hb2⟩;obtain⟨hc2,hf2⟩:=Yx hb2;have a2:w.heap.size<w2.heap.size:=Yv hb2 oq;have a3:w.heap.size+1<w2.heap.size:=Yv hb2 oq)|go_values|go_skip|go_guarded|go_step|go_upon|(simp only[Int.not_lt,Int.not_le] at *;go_simp)|(go_values<;>(try go_simp))|(go_ite<;>go_prune<;>(try go_simp))|(split<;>(first|(rename_i hx;exact(hx _ rfl).elim)|go_prune)))
   refine Zl (v:=(TT.bad a1 e1).v) (by simp only[results,Tryz.results70];go_simp;try rfl) rfl ⟨?_,?_⟩
   ·rfl
   exact bq
  have hk2':(k == 2)=false:=ZW.2 hk2
  clear hk2
  go_enter Tryz.func70,Tryz.ntmps70
  repeat' (first|(go_at_call 112;(with_reducible refine(HF.out _ _ _ _ (HA.out.args.below bq) HA.out.len.1 HA.out.len.2 (HM.out.below bq)).mono ?_);rintro x w2 ⟨rfl,hb2⟩;obtain⟨hc2,hf2⟩:=Yx hb2;have a2:w.heap.size<w2.heap.size:=Yv hb2 oq;have a3:w.heap.size+1<w2.heap.size:=Yv hb2 oq)|go_values|go_skip|go_guarded|go_step|go_upon|(simp only[Int.not_lt,Int.not_le] at *;go_simp)|(go_values<;>(try go_simp))|(go_ite<;>go_prune<;>(try go_simp))|(split<;>(first|(rename_i hx;exact(hx _ rfl).elim)|go_prune)))
  refine Zl (v:=(TT.bad a1 e1).v) (by simp only[results,Tryz.results70];go_simp;try rfl) rfl ⟨?_,?_⟩
  ·rfl
  exact bq
 | ok p f =>
  rw[hs] at hr HF
  simp only at hr
  simp only[TT.v] at HF
  by_cases hk2:k=2
  ·subst hk2
   rw[Z0 rfl] at hr
   subst hr
   clear hk1
   go_enter Tryz.func70,Tryz.ntmps70
   repeat' (first|(go_at_call 112;(with_reducible refine(HF.out _ _ _ _ (HA.out.args.below bq) HA.out.len.1 HA.out.len.2 (HM.out.below bq)).mono ?_);rintro x w2 ⟨rfl,hb2⟩;obtain⟨hc2,hf2⟩:=Yx hb2;have a2:w.heap.size<w2.heap.size:=Yv hb2 oq;have a3:w.heap.size+1<w2.heap.size:=Yv hb2 oq)|go_values|go_skip|go_guarded|go_step|go_upon|(simp only[Int.not_lt,Int.not_le] at *;go_simp)|(go_values<;>(try go_simp))|(go_ite<;>go_prune<;>(try go_simp))|(split<;>(first|(rename_i hx;exact(hx _ rfl).elim)|go_prune)))
   refine Zl (v:=(TT.ok p f).v) (by simp only[results,Tryz.results70];go_simp;try rfl) rfl ⟨?_,?_⟩
   ·rfl
   exact bq
  have hk2':(k == 2)=false:=ZW.2 hk2
  rw[ZZ hk2] at hr
  have HP:=hid (fun w=>clock.Uo p f k n d w)
  unfold clock.zy clock.UW at HP
  generalize clock.YC p f k n d=r at hr HP
  obtain⟨r1,r2,r3⟩:=r
  simp only at hr HP
  clear hk1 hk2
  by_cases h0:r3=0
  ·subst h0
   rw[Z0 rfl] at hr
   subst hr
   go_enter Tryz.func70,Tryz.ntmps70
   repeat' (first|(go_at_call 112;(with_reducible refine(HF.out _ _ _ _ (HA.out.args.below bq) HA.out.len.1 HA.out.len.2 (HM.out.below bq)).mono ?_);rintro x w2 ⟨rfl,hb2⟩;obtain⟨hc2,hf2⟩:=Yx hb2;have a2:w.heap.size<w2.heap.size:=Yv hb2 oq;have a3:w.heap.size+1<w2.heap.size:=Yv hb2 oq)|(go_at_call 113;(with_reducible refine(HP.out _).mono ?_);rintro x w3 ⟨rfl,hb3⟩;obtain⟨hc3,hf3⟩:=Yx hb3;have a4:w.heap.size<w3.heap.size:=Yv hb3 oq;have a5:w.heap.size+1<w3.heap.size:=Yv hb3 oq;have a6:w2.heap.size<w3.heap.size:=Yv hb3 oq)|go_values|go_skip|go_guarded|go_step|go_upon|(simp only[Int.not_lt,Int.not_le] at *;go_simp)|(go_values<;>(try go_simp))|(go_ite<;>go_prune<;>(try go_simp))|(split<;>(first|(rename_i hx;exact(hx _ rfl).elim)|go_prune)))
   refine Zl (v:=(TT.ok r1 r2).v) (by simp only[results,Tryz.results70];go_simp;try rfl) rfl ⟨?_,?_⟩
   ·rfl
   exact bq
  rw[ZZ h0] at hr
  subst hr
  have h0':(r3 == 0)=false:=ZW.2 h0
  clear h0
  go_enter Tryz.func70,Tryz.ntmps70
  repeat' (first|(go_at_call 112;(with_reducible refine(HF.out _ _ _ _ (HA.out.args.below bq) HA.out.len.1 HA.out.len.2 (HM.out.below bq)).mono ?_);rintro x w2 ⟨rfl,hb2⟩;obtain⟨hc2,hf2⟩:=Yx hb2;have a2:w.heap.size<w2.heap.size:=Yv hb2 oq;have a3:w.heap.size+1<w2.heap.size:=Yv hb2 oq)|(go_at_call 113;(with_reducible refine(HP.out _).mono ?_);rintro x w3 ⟨rfl,hb3⟩;obtain⟨hc3,hf3⟩:=Yx hb3;have a4:w.heap.size<w3.heap.size:=Yv hb3 oq;have a5:w.heap.size+1<w3.heap.size:=Yv hb3 oq;have a6:w2.heap.size<w3.heap.size:=Yv hb3 oq)|go_values|go_skip|go_guarded|go_step|go_upon|(simp only[Int.not_lt,Int.not_le] at *;go_simp)|(go_values<;>(try go_simp))|(go_ite<;>go_prune<;>(try go_simp))|(split<;>(first|(rename_i hx;exact(hx _ rfl).elim)|go_prune)))
  refine Zl (v:=(TT.bad a r3).v) (by simp only[results,Tryz.results70];go_simp;try rfl) rfl ⟨?_,?_⟩
  ·rfl
  exact bq
def TT.good:TT→Prop
 | .bad _ e=>e≠0
 | _=>True
theorem Gx {env:Env} {k:Int} {nm:ByteArray} {n d a:Int} {src:TT} (h:src.good):(XQ env k nm n d a src).good:=by
 unfold XQ
 split
 ·split<;>trivial
 cases src with
 | unk=>trivial
 | bad a e=>exact h
 | ok p f =>
  simp only
  split
  ·trivial
  split
  ·trivial
  assumption
theorem qQ (env:Env):∀l:PL,(Xn env l).good:=by
 intro l
 induction l with
 | nil=>trivial
 | cons k nm n d args a tl ih1 ih2 =>
  have h:=Gx (env:=env) (k:=k) (nm:=nm) (n:=n) (d:=d) (a:=a) ih1
  unfold Xn
  generalize XQ env k nm n d a (Xn env args)=t at h
  cases t with
  | unk=>exact ih2
  | ok p f=>trivial
  | bad a e=>exact h
theorem VE (env:Env) (e:PE):(Qg env e).good:=Gx (qQ env e.args)
def X3 (wr:World) (ad:Option Addr) (l rest:PL) (i:Nat):Prop :=
 i+rest.len=l.len∧rest.sz≤l.sz∧(rest=.nil∨∃b o,ad=some ⟨b,o,none⟩∧b<wr.heap.size∧AC wr rest b (o+i*6))
theorem X3.start {w:World} {ad:Option Addr} {l:PL} (h:AS w l ad):X3 w ad l l 0:=by
 refine⟨oq,Zc _,?_⟩
 rcases h with h|⟨b,o,e,hb,h⟩
 ·exact .inl h
 exact .inr ⟨b,o,e,hb,by simpa using h⟩
theorem X3.below {w w':World} {ad:Option Addr} {l rest:PL} {i:Nat} (h:X3 w ad l rest i) (hb:Below w.heap.size w w'):X3 w' ad l rest i:=by
 obtain⟨h1,h2,h3⟩:=h
 refine⟨h1,h2,?_⟩
 rcases h3 with h3|⟨b,o,e,hlt,h3⟩
 ·exact .inl h3
 exact .inr ⟨b,o,e,Zd hlt hb.size,h3.below hb _ _ _ hlt⟩
theorem X3.tail {w:World} {ad:Option Addr} {l tl args:PL} {k n d a:Int} {nm:ByteArray} {i:Nat} (h:X3 w ad l (.cons k nm n d args a tl) i):X3 w ad l tl (i+1):=by
 obtain⟨h1,h2,h3⟩:=h
 refine⟨by simp only[PL.len] at h1;omega,by simp only[PL.sz] at h2;omega,?_⟩
 rcases h3 with h3|⟨b,o,e,hlt,h3⟩
 ·cases h3
 obtain⟨_,_,_,_,_,_,_,ht⟩:=h3
 exact .inr ⟨b,o,e,hlt,by rw[show o+(i+1)*6=o+i*6+6 by omega];exact ht⟩
theorem U8 {w:World} {b:Nat} {v0 v1 v2 v3 v4:Value} {t:TypeId} (h:w.heap[b]?=some (.cells #[v0,v1,v2,v3,v4] t (0,0))) :
  (w.cell? ⟨b,0,none⟩=some v0∧w.cell? ⟨b,1,none⟩=some v1∧w.cell? ⟨b,2,none⟩=some v2∧w.cell? ⟨b,3,none⟩=some v3∧w.cell? ⟨b,4,none⟩=some v4)∧∀o,w.frozen? ⟨b,o,none⟩=false:=by
 refine⟨⟨?_,?_,?_,?_,?_⟩,?_⟩
 all_goals first|(intro o;simp[World.frozen?,h])|simp[World.cell?,h]
def Zcc (w:World) (env:Env) (L:List (ByteArray × Value)) (l:PL) (ad:Option Addr) (mb:Nat) (v:Value) (wr:World):Prop :=
 ∃(i:Nat) (rest:PL),v=.int .i64 (i:Int)∧X3 wr ad l rest i∧Xn env rest=Xn env l ∧
  wr.heap[w.heap.size]?=some (.cells #[.int .i64 0,.int .i64 0,.bool false,.int .i64 0,.int .i64 0] 145 (0,0))∧Below w.heap.size w wr
theorem qn {env:Env} {L:List (ByteArray × Value)} (l:PL) (ih:∀e:PE,e.args.sz<l.sz→Qx env L e):Jc env L l:=by
 intro w ad cap mb hs hcap hmx hM
 have HS:=hid hs
 have HM:=hid hM
 have HIH:=hid ih
 clear hs hM ih
 obtain⟨r,hr⟩:∃r,Xn env l=r:=⟨_,rfl⟩
 rw[hr]
 have HR:=hid hr
 clear hr
 go_enter Tryz.func112,Tryz.ntmps112
 go_wp2
 go_loopw [10] (fun v wr=>Hid (Zcc w env L l ad mb v wr)) (fun i _=>l.len-(intOf i).toNat)
 case atStart=>exact⟨0,l,rfl,(X3.start HS.out).below bq,rfl,Yt w _,bq⟩
 obtain⟨i,rest,rfl,hrest,htl,hbox,hbel⟩:=hrel.out
 clear hrel
 obtain⟨⟨x0,x1,x2,x3,x4⟩,xf⟩:=U8 hbox
 have HBOX:=hid hbox
 have HBEL:=hid hbel
 have hil:=hrest.1
 have hbl:=Zb hbox
 have HRS:=hid hrest
 have HTL:=hid htl
 clear hbox hbel hrest htl
 cases rest with
 | nil =>
  have hil':(i:Int)=(l.len:Int):=by simp only[PL.len] at hil;omega
  have h0:=HTL.out
  rw[Xn] at h0
  have h1:r=.unk:=by rw[←HR.out,←h0]
  subst h1
  clear h0
  repeat' (first|go_values|go_skip|go_guarded|go_step|go_upon|(simp only[Int.not_lt,Int.not_le] at *;go_simp)|(go_values<;>(try go_simp))|(go_ite<;>go_prune<;>(try go_simp))|(split<;>(first|(rename_i hx;exact(hx _ rfl).elim)|go_prune)))
  refine Zl (v:=TT.unk.v) (by simp only[results,Tryz.results112];go_simp;try rfl) rfl ⟨?_,?_⟩
  ·rfl
  exact bq
 | cons k1 nm1 n1 d1 args1 a1 tl =>
  have hil':(i:Int)<(l.len:Int):=by simp only[PL.len] at hil;omega
  obtain⟨b,o,rfl,hb,h0,h1,h2,h3,h5,hn,⟨ad1,cap1,h4,hcap1,hcm1,hd1⟩,ht⟩:=HRS.out.2.2.resolve_left (by intro h;cases h)
  have hsub:=HRS.out.2.1
  simp only[PL.sz] at hsub
  have HC:=hid (HIH.out ⟨k1,nm1,n1,d1,args1,a1⟩ (by show args1.sz<l.sz;omega))
  have HE:=hid (show AE wr ⟨k1,nm1,n1,d1,args1,a1⟩ ad1 cap1 from ⟨hn,⟨hcap1,hcm1⟩,hd1⟩)
  have hgd:=VE env ⟨k1,nm1,n1,d1,args1,a1⟩
  have htl:=HTL.out
  rw[Xn] at htl
  unfold Qx at HC
  simp only at HC
  have hte:Qg env ⟨k1,nm1,n1,d1,args1,a1⟩=XQ env k1 nm1 n1 d1 a1 (Xn env args1):=rfl
  rw[←hte] at htl
  generalize Qg env ⟨k1,nm1,n1,d1,args1,a1⟩=t at htl hgd HC
  clear hte ht hn hd1
  cases t with
  | unk =>
   simp only at htl
   simp only[TT.v] at HC
   have HT2:=hid htl
   clear htl hgd
   repeat' (first|(go_at_call 70;(with_reducible refine(HC.out _ _ _ _ (HE.out.below bq) (HM.out.below bq)).mono ?_);rintro x w2 ⟨rfl,hb2⟩;obtain⟨hc2,hf2⟩:=Yx hb2;have a2:w.heap.size<w2.heap.size:=Yv hb2 oq;have a3:wr.heap.size<w2.heap.size:=Yv hb2 oq;have hbx2:=(hb2.block w.heap.size oq).trans ((Z3 _ _ hbl).trans HBOX.out);obtain⟨⟨y0,y1,y2,y3,y4⟩,yf⟩:=U8 hbx2;clear hbx2)|go_values|go_skip|go_guarded|go_step|go_upon|(simp only[Int.not_lt,Int.not_le] at *;go_simp)|(go_values<;>(try go_simp))|(go_ite<;>go_prune<;>(try go_simp))|(split<;>(first|(rename_i hx;exact(hx _ rfl).elim)|go_prune)))
   go_roundw
   case rel=>exact⟨i+1,tl,by go_num,HRS.out.tail.below bq,HT2.out,(Below.block (show Below wr.heap.size wr _ from bq) _ hbl).trans HBOX.out,bq⟩
   simp[intOf];omega
  | ok p f =>
   simp only at htl
   simp only[TT.v] at HC
   have h1:r=.ok p f:=by rw[←HR.out,←htl]
   subst h1
   clear htl hgd
   repeat' (first|(go_at_call 70;(with_reducible refine(HC.out _ _ _ _ (HE.out.below bq) (HM.out.below bq)).mono ?_);rintro x w2 ⟨rfl,hb2⟩;obtain⟨hc2,hf2⟩:=Yx hb2;have a2:w.heap.size<w2.heap.size:=Yv hb2 oq;have a3:wr.heap.size<w2.heap.size:=Yv hb2 oq;have hbx2:=(hb2.block w.heap.size oq).trans ((Z3 _ _ hbl).trans HBOX.out);obtain⟨⟨y0,y1,y2,y3,y4⟩,yf⟩:=U8 hbx2;clear hbx2)|go_values|go_skip|go_guarded|go_step|go_upon|(simp only[Int.not_lt,Int.not_le] at *;go_simp)|(go_values<;>(try go_simp))|(go_ite<;>go_prune<;>(try go_simp))|(split<;>(first|(rename_i hx;exact(hx _ rfl).elim)|go_prune)))
   refine Zl (v:=(TT.ok p f).v) (by simp only[results,Tryz.results112];go_simp;try rfl) rfl ⟨?_,?_⟩
   ·rfl
   exact bq
  | bad ab eb =>
   simp only at htl
   simp only[TT.v] at HC
   have h1:r=.bad ab eb:=by rw[←HR.out,←htl]
   subst h1
   have heb:(eb == 0)=false:=ZW.2 hgd
   clear htl hgd
   repeat' (first|(go_at_call 70;(with_reducible refine(HC.out _ _ _ _ (HE.out.below bq) (HM.out.below bq)).mono ?_);rintro x w2 ⟨rfl,hb2⟩;obtain⟨hc2,hf2⟩:=Yx hb2;have a2:w.heap.size<w2.heap.size:=Yv hb2 oq;have a3:wr.heap.size<w2.heap.size:=Yv hb2 oq;have hbx2:=(hb2.block w.heap.size oq).trans ((Z3 _ _ hbl).trans HBOX.out);obtain⟨⟨y0,y1,y2,y3,y4⟩,yf⟩:=U8 hbx2;clear hbx2)|go_values|go_skip|go_guarded|go_step|go_upon|(simp only[Int.not_lt,Int.not_le] at *;go_simp)|(go_values<;>(try go_simp))|(go_ite<;>go_prune<;>(try go_simp))|(split<;>(first|(rename_i hx;exact(hx _ rfl).elim)|go_prune)))
   refine Zl (v:=(TT.bad ab eb).v) (by simp only[results,Tryz.results112];go_simp;try rfl) rfl ⟨?_,?_⟩
   ·rfl
   exact bq
theorem gX {env:Env} {L:List (ByteArray × Value)} (hE:Xt L env):∀(N:Nat),(∀l:PL,l.sz<N→Jc env L l)∧(∀e:PE,e.args.sz<N→Qx env L e):=by
 intro N
 induction N with
 | zero=>exact⟨fun l h=>absurd h (Yi _),fun e h=>absurd h (Yi _)⟩
 | succ N ih =>
  have h1:∀l:PL,l.sz<N+1→Jc env L l:=fun l h=>qn l (fun e he=>ih.2 e oq)
  exact⟨h1,fun e h=>uq hE e (h1 _ h)⟩
theorem Gy {env:Env} {L:List (ByteArray × Value)} (hE:Xt L env) (e:PE):Qx env L e:=(gX hE _).2 e (ZU _)
theorem JQ (k:ByteArray) (v:Value) (nm:ByteArray):∀L:List (ByteArray × Value),YT nm (QZ k v L)=if nm=k then some v else YT nm L:=by
 intro L
 induction L with
 | nil=>unfold QZ YT;rfl
 | cons p L ih =>
  unfold QZ
  by_cases hk:k=p.1
  ·rw[Z0 hk]
   unfold YT
   by_cases h:nm=k
   ·rw[Z0 h,Z0 h]
   rw[ZZ h,ZZ h,ZZ (by rw[←hk];exact h)]
  rw[ZZ hk]
  unfold YT
  by_cases h:nm=p.1
  ·rw[Z0 h,Z0 h,ZZ (by rw[h];exact fun e=>hk e.symm)]
  rw[ZZ h,ZZ h];exact ih
theorem yR (k:ByteArray) (v:Value):∀L:List (ByteArray × Value),YT k L=none→(QZ k v L).length=L.length+1:=by
 intro L
 induction L with
 | nil=>intro _;rfl
 | cons p L ih =>
  intro h
  unfold YT at h
  by_cases hk:k=p.1
  ·rw[Z0 hk] at h;cases h
  rw[ZZ hk] at h
  unfold QZ
  rw[ZZ hk,Zp,ih h,Zp]
def upd (env:Env) (k:ByteArray) (c:Int × Int):Env:=fun nm=>if nm=k then some c else env nm
theorem Xt.put {L:List (ByteArray × Value)} {env:Env} (h:Xt L env) (k:ByteArray) (c:Int × Int):Xt (QZ k (cvv c) L) (upd env k c):=by
 intro nm
 rw[JQ]
 unfold upd
 by_cases hk:nm=k
 ·rw[Z0 hk,Z0 hk];rfl
 rw[ZZ hk,ZZ hk];exact h nm
def ym (w:World) (mb:Nat):Nat:=match w.heap[mb]? with|some (.map arr _)=>arr.size|_=>0
theorem YJ.size {w:World} {mb:Nat} {L:List (ByteArray × Value)} (h:YJ w mb L):ym w mb=L.length:=by
 obtain⟨arr,clock,h1,h2⟩:=h
 unfold ym
 rw[h1]
 have:=Z1 List.length h2
 simpa using this
theorem FlC.cells {w:World} {b o:Nat} {nm nm1:ByteArray} {k1 n1 d1 a1 fa:Int} {args1:PL} (h:FlC w b o ⟨nm,⟨k1,nm1,n1,d1,args1,a1⟩,fa⟩):∃ad cap,
  w.cell? ⟨b,o,none⟩=some (.string nm)∧w.cell? ⟨b,o+1,none⟩=some (.int .i64 k1)∧w.cell? ⟨b,o+2,none⟩=some (.string nm1)∧w.cell? ⟨b,o+3,none⟩=some (.int .i64 n1)∧w.cell? ⟨b,o+4,none⟩=some (.int .i64 d1) ∧
  w.cell? ⟨b,o+5,none⟩=some (.slice ad args1.len cap)∧w.cell? ⟨b,o+6,none⟩=some (.int .i64 a1)∧w.cell? ⟨b,o+7,none⟩=some (.int .i64 fa)∧AE w ⟨k1,nm1,n1,d1,args1,a1⟩ ad cap∧(nm.size≤9223372036854775807∧I64 fa):=by
 obtain⟨x0,⟨ad1,cap1,x1,x2,x3,x4,x5,x6,hae⟩,x7,hfn⟩:=h
 exact⟨ad1,cap1,x0,x1,x2,x3,x4,x5,x6,x7,hae,hfn⟩
theorem EQ {l:List FL} {i:Nat} (h:i<l.length):l.drop i=l[i]::l.drop (i+1):=by rw[ZM h]
theorem YJ.upon {w w':World} {mb r:Nat} {L:List (ByteArray × Value)} (h:YJ w mb L) (hu:Upon r w w') (hne:mb≠r):YJ w' mb L:=by
 obtain⟨arr,clock,h1,h2⟩:=h
 exact⟨arr,clock,(hu.block mb (Zb h1) hne).trans h1,h2⟩
structure FW (W0 w wr:World) (mb:Nat) (L:List (ByteArray × Value)) (env:Env):Prop where
 upon:Upon mb w wr
 map:YJ wr mb L
 env:Xt L env
def isT:Value→Nat
 | .bool true=>1
 | _=>0
def Vq:Ending:=.returned (.tuple #[.int .i64 0,.int .i64 0])
theorem Jh (p q p' q':Int) (w:World):(Op.equal 50 (.agg #[.int .i64 p,.int .i64 q]) (.agg #[.int .i64 p',.int .i64 q'])).run Tryz.prog w=.ok (decide (p=p'∧q=q')) w:=by
 have hu:Tryz.prog.underlying 50=some (.struct (Tryz.prog.fieldsOf 50)):=by kernel_rfl
 have hs:Tryz.prog.stoodInHeld 50=false:=by kernel_rfl
 have hf : (Tryz.prog.fieldsOf 50).toList.map (fun f => (f.name, f.type, f.offset)) = [("Period", 2, 0), ("Phase", 2, 1)] := by kernel_rfl
 obtain ⟨f1, f2, hl, n1, t1, o1, n2, t2, o2⟩ : ∃ f1 f2, (Tryz.prog.fieldsOf 50).toList = [f1, f2] ∧ f1.name = "Period" ∧ f1.type = 2 ∧ f1.offset = 0 ∧ f2.name = "Phase" ∧ f2.type = 2 ∧ f2.offset = 1 := by
  generalize (Tryz.prog.fieldsOf 50).toList=l at hf
  cases l with
  | nil=>simp at hf
  | cons f1 l =>
   cases l with
   | nil=>simp at hf
   | cons f2 l =>
    cases l with
    | nil=>simp at hf;exact⟨f1,f2,rfl,hf.1.1,hf.1.2.1,hf.1.2.2,hf.2.1,hf.2.2.1,hf.2.2.2⟩
    | cons f3 l=>simp at hf
 unfold Op.equal
 rw[show Op.maxDepth=9998+1+1 from rfl,run_equalIn_agg w (9998+1) 50 _ _ hu hs,hl]
 have hi:(isAgg 2).run Tryz.prog w=.ok false w:=by kernel_rfl
 have hp:(Op.equalIn (9998+1) 2 (.int .i64 p) (.int .i64 p')).run Tryz.prog w=.ok (p == p') w:=run_equalIn_int w 9998 2 .i64 .i64 _ _ Tryz.underlying2
 have hn:(Op.equalIn (9998+1) 2 (.int .i64 q) (.int .i64 q')).run Tryz.prog w=.ok (q == q') w:=run_equalIn_int w 9998 2 .i64 .i64 _ _ Tryz.underlying2
 simp only[Op.eqFields,n1,t1,o1,n2,t2,o2]
 simp[part,hi,hp,hn]
 by_cases h1:p=p'<;>by_cases h2:q=q'<;>simp[h1,h2]
def TT.clk:TT→Int × Int
 | .ok p f=>(p,f)
 | _=>(0,0)
def ckL (env:Env) (c:Int × Int):PL→Bool
 | .nil=>true
 | .cons k nm n d args a tl=>match XQ env k nm n d a (Xn env args) with
  | .bad _ _=>false
  | .unk=>decide ((0,0)=c)&&ckL env c tl
  | .ok p f=>decide ((p,f)=c)&&ckL env c tl
def ckA (env:Env):PL→Bool
 | .nil=>true
 | .cons k nm n d args a tl=>match XQ env k nm n d a (Xn env args) with
  | .bad _ _=>false
  | .unk=>ckL env (0,0) tl
  | .ok p f=>ckL env (p,f) tl
theorem VZ {w:World} {b:Nat} {v0 v1:Value} {t:TypeId} (h:w.heap[b]?=some (.cells #[v0,v1] t (0,0))) :
  (w.cell? ⟨b,0,none⟩=some v0∧w.cell? ⟨b,1,none⟩=some v1)∧∀o,w.frozen? ⟨b,o,none⟩=false:=by
 refine⟨⟨?_,?_⟩,?_⟩
 all_goals first|(intro o;simp[World.frozen?,h])|simp[World.cell?,h]
theorem jK {w:World} {r:Nat} {a b:Value} {t:TypeId} (h:w.heap[r]?=some (.cells #[a,b] t (0,0))) (o:Nat) (u:Value) :
  (w.setCell ⟨r,o,none⟩ u).heap[r]?=some (.cells (#[a,b].setIfInBounds o u) t (0,0)):=by
 have hlt:=Zb h
 have h':w.heap[r]=.cells #[a,b] t (0,0):=by simpa [Yk hlt] using h
 show(w.heap.modify r _)[r]?=_
 rw[Yk (by simpa using hlt),Array.getElem_modify_self,h']
 rfl
theorem set2 {w:World} {r:Nat} {a b a' b':Value} {t:TypeId} (h:w.heap[r]?=some (.cells #[a,b] t (0,0))) :
  ((w.setCell ⟨r,0,none⟩ a').setCell ⟨r,1,none⟩ b').heap[r]?=some (.cells #[a',b'] t (0,0)):=jK (a:=a') (b:=b) (jK h 0 a') 1 b'
theorem ut (env:Env) (k:Int) (nm:ByteArray) (n d a:Int) (args:PL):(∃ab eb,XQ env k nm n d a (Xn env args)=.bad ab eb) ∨
  ∃p f kb,(XQ env k nm n d a (Xn env args)).v=.agg #[.int .i64 p,.int .i64 f,.bool kb,.int .i64 0,.int .i64 0] ∧
   (∀c tl,ckL env c (.cons k nm n d args a tl)=(decide ((p,f)=c)&&ckL env c tl))∧∀tl,ckA env (.cons k nm n d args a tl)=ckL env (p,f) tl:=by
 cases h:XQ env k nm n d a (Xn env args) with
 | bad ab eb=>exact .inl ⟨ab,eb,rfl⟩
 | unk=>exact .inr ⟨0,0,false,rfl,fun c tl=>by rw[ckL,h],fun tl=>by rw[ckA,h]⟩
 | ok p f=>exact .inr ⟨p,f,true,rfl,fun c tl=>by rw[ckL,h],fun tl=>by rw[ckA,h]⟩
theorem eQ {env:Env} {k:Int} {nm:ByteArray} {n d a ab eb:Int} {args:PL} (h:XQ env k nm n d a (Xn env args)=.bad ab eb) (c:Int × Int) (tl:PL):ckL env c (.cons k nm n d args a tl)=false:=by rw[ckL,h]
theorem eP {env:Env} {k:Int} {nm:ByteArray} {n d a ab eb:Int} {args:PL} (h:XQ env k nm n d a (Xn env args)=.bad ab eb) (tl:PL):ckA env (.cons k nm n d args a tl)=false:=by rw[ckA,h]
def Ev (b:Bool) (x:Ending):Prop:=if b=true then x=Vq else ∃a e,e≠0∧x=.returned (.tuple #[.int .i64 a,.int .i64 e])
def Zb3 (w:World) (env:Env) (e:PE) (ad:Option Addr) (cap:Nat) (v:Value) (wr:World):Prop :=
 ∃(i:Nat) (rest:PL) (c1 c2:Int),v=.int .i64 (i:Int)∧X3 w ad e.args rest i∧(i=0→rest=e.args)∧(i≠0→ckL env (c1,c2) rest=ckA env e.args) ∧
  wr.heap[w.heap.size]?=some (.cells #[.int .i64 e.k,.string e.nm,.int .i64 e.n,.int .i64 e.d,.slice ad e.args.len cap,.int .i64 e.a] 92 (0,0)) ∧
  wr.heap[w.heap.size+1]?=some (.cells #[.int .i64 c1,.int .i64 c2] 50 (0,0))∧Below w.heap.size w wr
theorem zC {w:World} (e:PE) (ad:Option Addr) (cap mb:Nat) (L:List (ByteArray × Value)) (env:Env) (hae:AE w e ad cap) (hM:YJ w mb L) (hE:Xt L env) :
  Calls Tryz.prog 72 #[.map (some mb),.agg #[.int .i64 e.k,.string e.nm,.int .i64 e.n,.int .i64 e.d,.slice ad e.args.len cap,.int .i64 e.a]] w fun x w'=>Ev (ckA env e.args) x∧Below w.heap.size w w':=by
 obtain⟨k,nm,n,d,args,a⟩:=e
 have hlen:=hae.len
 simp only at hlen ⊢
 have HA:=hid hae
 have HM:=hid hM
 clear hae hM
 obtain⟨r,hr⟩:∃r,ckA env args=r:=⟨_,rfl⟩
 rw[hr]
 have HR:=hid hr
 clear hr
 go_enter Tryz.func72,Tryz.ntmps72
 go_wp2
 go_loopw [13] (fun v wr=>Hid (Zb3 w env ⟨k,nm,n,d,args,a⟩ ad cap v wr)) (fun i _=>args.len-(intOf i).toNat)
 case atStart=>exact⟨0,args,0,0,rfl,X3.start HA.out.args,fun _=>rfl,fun h=>absurd rfl h,(Z3 _ _ (by simp)).trans (Yt w _),by simpa using Yt (w.alloc _) _,bq⟩
 obtain⟨i,rest,c1,c2,rfl,hrest,hz,hnz,hbox,hfir,hbel⟩:=hrel.out
 clear hrel
 simp only at hz hnz
 obtain⟨⟨x0,x1,x2,x3,x4,x5⟩,xf⟩:=Y0 hbox
 obtain⟨⟨g0,g1⟩,gf⟩:=VZ hfir
 have HBOX:=hid hbox
 have HFIR:=hid hfir
 have HBEL:=hid hbel
 have hil:=hrest.1
 simp only at hil
 have hbl:=Zb hbox
 have hbl2:=Zb hfir
 have hsB:=hbel.size
 have HRS0:=hid hrest
 have HRS:=hid (hrest.below hbel)
 clear hbox hfir hbel hrest
 cases rest with
 | nil =>
  have hil':(i:Int)=(args.len:Int):=by simp only[PL.len] at hil;omega
  have h1:r=true:=by
   rw[←HR.out]
   by_cases h0:i=0
   ·rw[←hz h0];rfl
   rw[←hnz h0];rfl
  subst h1
  clear hz hnz
  go_wp2
  go_ret2
  exact⟨rfl,HBEL.out⟩
 | cons k1 nm1 n1 d1 args1 a1 tl =>
  have hil':(i:Int)<(args.len:Int):=by simp only[PL.len] at hil;omega
  obtain⟨b,o,rfl,hb,h0,h1,h2,h3,h5,hn,⟨ad1,cap1,h4,hcap1,hcm1,hd1⟩,ht⟩:=HRS.out.2.2.resolve_left (by intro h;cases h)
  have HC:=hid (Gy hE ⟨k1,nm1,n1,d1,args1,a1⟩)
  have HE:=hid (show AE wr ⟨k1,nm1,n1,d1,args1,a1⟩ ad1 cap1 from ⟨hn,⟨hcap1,hcm1⟩,hd1⟩)
  have hgd:=VE env ⟨k1,nm1,n1,d1,args1,a1⟩
  unfold Qx at HC
  simp only at HC
  have hte:Qg env ⟨k1,nm1,n1,d1,args1,a1⟩=XQ env k1 nm1 n1 d1 a1 (Xn env args1):=rfl
  rw[hte] at HC hgd
  clear hte ht hn hd1
  rcases ut env k1 nm1 n1 d1 a1 args1 with ⟨ab,eb,hbad⟩|⟨p,f,kb,hv,hckl,hcka⟩
  ·have h1:r=false:=by
    rw[←HR.out]
    by_cases h0:i=0
    ·rw[←hz h0];exact eP hbad tl
    rw[←hnz h0];exact eQ hbad (c1,c2) tl
   subst h1
   rw[hbad] at HC hgd
   simp only[TT.v] at HC
   have heb:(eb == 0)=false:=ZW.2 hgd
   clear hz hnz hbad
   go_wp2_with (go_at_call 70;(with_reducible refine(HC.out _ _ _ _ (HE.out.below bq) (HM.out.below bq)).mono ?_);rintro x w2 ⟨rfl,hb2⟩;obtain⟨hc2,hf2⟩:=Yx hb2;have a2:w.heap.size<w2.heap.size:=Yv hb2 oq;have a2':w.heap.size+1<w2.heap.size:=Yv hb2 oq;have a3:wr.heap.size<w2.heap.size:=Yv hb2 oq;have hbx2:=(hb2.block w.heap.size oq).trans ((Z3 _ _ hbl).trans HBOX.out);obtain⟨⟨y0,y1,y2,y3,y4,y5⟩,yf⟩:=Y0 hbx2;have hby2:=(hb2.block (w.heap.size+1) oq).trans ((Z3 _ _ hbl2).trans HFIR.out);obtain⟨⟨z0,z1⟩,zf⟩:=VZ hby2;have HY2:=hid hby2;clear hbx2 hby2)
   go_quiet (fail)
   go_wp2
   go_ret2
   exact⟨⟨ab,eb,hgd,rfl⟩,bq⟩
  rw[hv] at HC
  clear hv hgd
  by_cases h0:i=0
  ·have hi0:((i:Int) == 0)=true:=by rw[beq_iff_eq];omega
   have hq:=fun w=>Jh p f p f w
   simp only[and_self,decide_true] at hq
   have h2:ckL env (p,f) tl=ckA env args:=by rw[←hz h0,hcka tl]
   have H2:=hid h2
   have HZ0:=hid h0
   clear hz hnz hckl hcka h0 h2
   go_wp2_with (go_at_call 70;(with_reducible refine(HC.out _ _ _ _ (HE.out.below bq) (HM.out.below bq)).mono ?_);rintro x w2 ⟨rfl,hb2⟩;obtain⟨hc2,hf2⟩:=Yx hb2;have a2:w.heap.size<w2.heap.size:=Yv hb2 oq;have a2':w.heap.size+1<w2.heap.size:=Yv hb2 oq;have a3:wr.heap.size<w2.heap.size:=Yv hb2 oq;have hbx2:=(hb2.block w.heap.size oq).trans ((Z3 _ _ hbl).trans HBOX.out);obtain⟨⟨y0,y1,y2,y3,y4,y5⟩,yf⟩:=Y0 hbx2;have hby2:=(hb2.block (w.heap.size+1) oq).trans ((Z3 _ _ hbl2).trans HFIR.out);obtain⟨⟨z0,z1⟩,zf⟩:=VZ hby2;have HY2:=hid hby2;clear hbx2 hby2)
   refine⟨⟨i+1,tl,p,f,by go_num,HRS0.out.tail,fun h=>oq,fun _=>H2.out,?_,?_,bq⟩,by simp[intOf];omega⟩
   ·exact(Below.block (show Below (w.heap.size+1) wr _ from bq) _ oq).trans HBOX.out
   exact(Z3 _ _ (by simpa [World.setCell] using a2')).trans (set2 HY2.out)
  have hi0:((i:Int) == 0)=false:=by rw[ZW];omega
  have hck:=hnz h0
  rw[hckl (c1,c2) tl] at hck
  have HI0:=hid h0
  by_cases hcc:p=c1∧f=c2
  ·obtain⟨rfl,rfl⟩:=hcc
   have hq:=fun w=>Jh p f p f w
   simp only[and_self,decide_true] at hq
   have H2:=hid (show ckL env (p,f) tl=ckA env args by rw[←hck];simp)
   clear hz hnz hckl hcka h0 hck
   go_wp2_with (go_at_call 70;(with_reducible refine(HC.out _ _ _ _ (HE.out.below bq) (HM.out.below bq)).mono ?_);rintro x w2 ⟨rfl,hb2⟩;obtain⟨hc2,hf2⟩:=Yx hb2;have a2:w.heap.size<w2.heap.size:=Yv hb2 oq;have a2':w.heap.size+1<w2.heap.size:=Yv hb2 oq;have a3:wr.heap.size<w2.heap.size:=Yv hb2 oq;have hbx2:=(hb2.block w.heap.size oq).trans ((Z3 _ _ hbl).trans HBOX.out);obtain⟨⟨y0,y1,y2,y3,y4,y5⟩,yf⟩:=Y0 hbx2;have hby2:=(hb2.block (w.heap.size+1) oq).trans ((Z3 _ _ hbl2).trans HFIR.out);obtain⟨⟨z0,z1⟩,zf⟩:=VZ hby2;have HY2:=hid hby2;clear hbx2 hby2)
   refine⟨⟨i+1,tl,p,f,by go_num,HRS0.out.tail,fun h=>oq,fun _=>H2.out,?_,?_,bq⟩,by simp[intOf];omega⟩
   ·exact(Below.block (show Below (w.heap.size+1) wr _ from bq) _ oq).trans HBOX.out
   exact(Z3 _ _ a2').trans HY2.out
  have hq:=fun w=>Jh p f c1 c2 w
  simp only[hcc,decide_false] at hq
  have h1:r=false:=by
   rw[←HR.out,←hck]
   have:¬((p,f)=(c1,c2)):=by intro e;injection e with e1 e2;exact hcc ⟨e1,e2⟩
   rw[ZX this];rfl
  subst h1
  have HCC:=hid hcc
  clear hz hnz hckl hcka h0 hck hcc
  go_wp2_with (go_at_call 70;(with_reducible refine(HC.out _ _ _ _ (HE.out.below bq) (HM.out.below bq)).mono ?_);rintro x w2 ⟨rfl,hb2⟩;obtain⟨hc2,hf2⟩:=Yx hb2;have a2:w.heap.size<w2.heap.size:=Yv hb2 oq;have a2':w.heap.size+1<w2.heap.size:=Yv hb2 oq;have a3:wr.heap.size<w2.heap.size:=Yv hb2 oq;have hbx2:=(hb2.block w.heap.size oq).trans ((Z3 _ _ hbl).trans HBOX.out);obtain⟨⟨y0,y1,y2,y3,y4,y5⟩,yf⟩:=Y0 hbx2;have hby2:=(hb2.block (w.heap.size+1) oq).trans ((Z3 _ _ hbl2).trans HFIR.out);obtain⟨⟨z0,z1⟩,zf⟩:=VZ hby2;have HY2:=hid hby2;clear hbx2 hby2)
  all_goals first|(exact(HCC.out ⟨rfl,rfl⟩).elim)|(exact(HCC.out ⟨by assumption,by assumption⟩).elim)|(exact(HCC.out ⟨by first|rfl|(symm;assumption),by first|rfl|(symm;assumption)⟩).elim)|(go_ret2;exact⟨⟨a,5,by decide,rfl⟩,bq⟩)
theorem VF (w:World) (p f a e:Int) (kb:Bool):(Instr.field 145 (.agg #[.int .i64 p,.int .i64 f,.bool kb,.int .i64 a,.int .i64 e]) 0).run Tryz.prog w=.ok (.agg #[.int .i64 p,.int .i64 f]) w:=by kernel_rfl
theorem Jk {w:World} {mb:Nat} {L:List (ByteArray × Value)} {nm:ByteArray} {v:Value} (h:YJ w mb L) (hs:YT nm L=some v) :
  (Instr.lookup 111 (.map (some mb)) (.string nm) false).run Tryz.prog w=.ok v w:=by
 have:=Xr Xc h nm false
 rw[hs] at this;exact this
theorem Zbj {w:World} {b:Nat} {v0:Value} {t:TypeId} (h:w.heap[b]?=some (.cells #[v0] t (0,0))) :
  w.cell? ⟨b,0,none⟩=some v0∧∀o,w.frozen? ⟨b,o,none⟩=false:=by
 refine⟨?_,?_⟩
 all_goals first|(intro o;simp[World.frozen?,h])|simp[World.cell?,h]
theorem set1 {w:World} {r:Nat} {a u:Value} {t:TypeId} (h:w.heap[r]?=some (.cells #[a] t (0,0))) :
  (w.setCell ⟨r,0,none⟩ u).heap[r]?=some (.cells #[u] t (0,0)):=by
 have hlt:=Zb h
 have h':w.heap[r]=.cells #[a] t (0,0):=by simpa [Yk hlt] using h
 show(w.heap.modify r _)[r]?=_
 rw[Yk (by simpa using hlt),Array.getElem_modify_self,h']
 rfl
def Vt (w:World) (rb:Nat) (r:Int):Prop:=w.heap[rb]?=some (.cells #[.int .i64 r] 3 (0,0))
theorem gR {w:World} (k n d a:Int) (nm:ByteArray) (v:Value) (rb:Nat) (r:Int) (h:Vt w rb r) (h1:1≤r) (h2:r≤1000000) :
  Calls Tryz.prog 68 #[.agg #[.int .i64 k,.string nm,.int .i64 n,.int .i64 d,v,.int .i64 a],.pointer (some ⟨rb,0,none⟩)] w fun x w' =>
   x=.returned (.bool true)∧Vt w' rb (r-1)∧Upon rb w w':=by
 have H:=hid h
 obtain⟨c0,cf⟩:=Zbj h
 have hlt:=Zb h
 have hd:decide ((0:Int)≤r-1)=true:=by simp;omega
 have hd':(0:Int)≤r-1:=oq
 clear h
 go_enter Tryz.func68,Tryz.ntmps68
 go_wp2
 go_ret
 refine⟨by simp,?_,?_⟩
 ·exact(Z3 _ _ (by simpa [World.setCell] using hlt)).trans (set1 H.out)
 exact(by repeat (first|(with_reducible exact Upon.refl _ _)|((with_reducible refine Upon.setAt ?_ ?_ _);(rotate_left;focus (first|exact Or.inl rfl|omega|(simp;done)|(simp;omega))))|(with_reducible refine Upon.alloc ?_ _)|(with_reducible refine Upon.drewN ?_ _)|(with_reducible refine Upon.drew ?_)))
def xc (rb:Nat):Value:=.func (.func 68) #[] #[.pointer (some ⟨rb,0,none⟩)]
def U5 (e:PE):Prop:=∀(W0 w:World) (ad:Option Addr) (cap rb:Nat) (r:Int),AE W0 e ad cap→Below W0.heap.size W0 w→W0.heap.size≤rb→Vt w rb r→(e.args.sz:Int)+1≤r→r≤1000000 →
 Calls Tryz.prog 69 #[.agg #[.int .i64 e.k,.string e.nm,.int .i64 e.n,.int .i64 e.d,.slice ad e.args.len cap,.int .i64 e.a],xc rb] w fun x w' =>
  x=.returned (.bool true)∧Vt w' rb (r-(e.args.sz+1))∧Upon rb w w'
def Zcs (W0 w:World) (e:PE) (ad:Option Addr) (rb:Nat) (r:Int) (v:Value) (wr:World):Prop :=
 ∃(i:Nat) (rest:PL) (rr:Int),v=.int .i64 (i:Int)∧X3 W0 ad e.args rest i∧Vt wr rb rr∧rr-rest.sz=r-(e.args.sz+1)∧Upon rb w wr
theorem qV (e:PE) (ih:∀e':PE,e'.args.sz<e.args.sz→U5 e'):U5 e:=by
 intro W0 w ad cap rb r hae hb hrb hrm hr1 hr2
 obtain⟨k,nm,n,d,args,a⟩:=e
 have hlen:=hae.len
 simp only at hlen hr1 ⊢
 have HA:=hid hae
 have HB0:=hid hb
 have HRM:=hid hrm
 have HIH:=hid ih
 have HLT:=hid (Zb hrm)
 have hlt:=Zb hrm
 have hsz0:=hb.size
 clear hae hb hrm ih
 unfold xc
 have HT:=hid (fun w v=>gR (w:=w) k n d a nm v rb r)
 have hne:¬w.heap.size=rb:=oq
 have hne':¬rb=w.heap.size:=oq
 go_enter Tryz.func69,Tryz.ntmps69
 go_wp2_with (go_at_call 68;refine(HT.out _ _ ((Z3 _ _ HLT.out).trans HRM.out) oq oq).mono ?_;rintro x w1 ⟨rfl,hrm1,hu1⟩;obtain⟨hc1,hf1⟩:=ZcT hu1;have b1:w.heap.size<w1.heap.size:=Zd oq hu1.size)
 have HU1:=hid hu1
 have HRM1:=hid hrm1
 clear hu1 hrm1
 go_loopw [14] (fun v wr=>Hid (Zcs W0 w ⟨k,nm,n,d,args,a⟩ ad rb r v wr)) (fun i _=>args.len-(intOf i).toNat)
 case atStart=>exact⟨0,args,r-1,rfl,X3.start HA.out.args,HRM1.out,by simp only;omega,((Upon.refl _ _).alloc _).trans HU1.out⟩
 obtain⟨i,rest,rr,rfl,hrest,hroom,hrr,hup⟩:=hrel.out
 clear hrel
 simp only at hrr
 have HUP:=hid hup
 have HROOM:=hid hroom
 have hil:=hrest.1
 simp only at hil
 have hbw:Below W0.heap.size W0 wr:=HB0.out.trans (hup.below HB0.out.size hrb)
 have HRS0:=hid hrest
 have HRS:=hid (hrest.below hbw)
 have HBW:=hid hbw
 have hltr:=Zb hroom
 have hszr:=hup.size
 clear hup hroom hrest hbw
 cases rest with
 | nil =>
  have hil':(i:Int)=(args.len:Int):=by simp only[PL.len] at hil;omega
  simp only[PL.sz] at hrr
  go_wp2
  go_ret
  refine⟨rfl,?_,HUP.out⟩
  have e1:rr=r-(↑args.sz+1):=by simpa using hrr
  rw[←e1];exact HROOM.out
 | cons k1 nm1 n1 d1 args1 a1 tl =>
  have hil':(i:Int)<(args.len:Int):=by simp only[PL.len] at hil;omega
  have hrest0:=HRS0.out.2.2.resolve_left (by intro h;cases h)
  obtain⟨b,o,rfl,hb,h0,h1,h2,h3,h5,hn,⟨ad1,cap1,h4,hcap1,hcm1,hd1⟩,ht⟩:=HRS.out.2.2.resolve_left (by intro h;cases h)
  obtain⟨b',o',hbo,hb',g0,g1,g2,g3,g5,gn,⟨ad1',cap1',g4,gcap1,gcm1,gd1⟩,gt⟩:=hrest0
  injection hbo with hbo;injection hbo with hbo1 hbo2;subst hbo1;subst hbo2
  have hsub:=HRS0.out.2.1
  simp only[PL.sz] at hsub hrr
  have hee:=(HBW.out.cell (p:=⟨b,o+i*6+4,none⟩) hb').trans g4
  rw[h4] at hee
  injection hee with hee;injection hee with he1 he2 he3
  subst he1;subst he3
  have HE:=hid (show AE W0 ⟨k1,nm1,n1,d1,args1,a1⟩ ad1 cap1 from ⟨gn,⟨gcap1,gcm1⟩,gd1⟩)
  have HC:=hid (fun w' hb hr=>HIH.out ⟨k1,nm1,n1,d1,args1,a1⟩ (by show args1.sz<args.sz;omega) W0 w' ad1 cap1 rb rr HE.out hb hrb hr (by show(args1.sz:Int)+1≤rr;omega) oq)
  unfold xc at HC
  simp only at HC
  clear hn hd1 ht g0 g1 g2 g3 g5 gn g4 gd1 gt gcap1 gcm1 hb'
  go_wp2_with (go_at_call 69;go_loud (refine(HC.out _ (HBW.out.trans (Below.mono (show Below wr.heap.size wr _ from bq) HBW.out.size)) ((Z3 _ _ hltr).trans HROOM.out)).mono ?_;rintro x w2 ⟨rfl,hrm2,hu2⟩))
  refine⟨⟨i+1,tl,rr-(args1.sz+1),by go_num,HRS0.out.tail,hrm2,by simp only;omega,(HUP.out.alloc _).trans hu2⟩,by simp[intOf];omega⟩
theorem Et (e:PE):U5 e:=by
 suffices h:∀(N:Nat) (e:PE),e.args.sz<N→U5 e from h _ e (ZU _)
 intro N
 induction N with
 | zero=>intro e h;omega
 | succ N ih=>intro e h;exact qV e (fun e' h'=>ih e' oq)
end Go.Proofs.YtlhlcdjiafdoeaaGreatDoor.syn
