/-
  Parts of the proof: Flt3, Flt4, Flt5.
-/
import Derived.Test.YtpjficjlfibibaaGreatDoorQ22
namespace Go.Proofs.YtpjficjlfibibaaGreatDoor.syn
open Go.RowKit
set_option linter.unusedVariables false
set_option linter.unusedSimpArgs false
attribute [local go_sem] Oper.semAt_some
def spotsL:PL → ByteArray → Nat → List (PE × ByteArray)
 | .nil,_,_ => []
 | .cons k nm n d args a tl,w,i => (⟨k,nm,n,d,args,a⟩,w ++ ⟨#[47]⟩ ++ dg i) :: (spotsL args (w ++ ⟨#[47]⟩ ++ dg i) 0 ++ spotsL tl w (i + 1))
def spotsE (e:PE) (w:ByteArray):List (PE × ByteArray):=(e,w) :: spotsL e.args w 0
theorem spotsL_sz:∀ (l:PL) (w:ByteArray) (i:Nat),(spotsL l w i).length = l.sz:=by
 intro l
 induction l with
 | nil => intro w i;rfl
 | cons k nm n d args a tl ih1 ih2 => intro w i;simp only [spotsL,List.length_cons,List.length_append,ih1,ih2,PL.sz];omega
structure SpOK (W0:World) (e:PE) (ad:Option Addr) (cap:Nat) (way:ByteArray):Prop where
 mem:AE W0 e ad cap
 good:exprOK e = true
 short:way.size + 3 * e.args.sz ≤ 500
 few:e.args.sz < 100
structure VS (W0:World) where
 s:PE × ByteArray
 ad:Option Addr
 cap:Nat
 ok:SpOK W0 s.1 ad cap s.2
def VS.vs {W0:World} (x:VS W0):Array Value:=#[.agg #[.int .i64 x.s.1.k,.string x.s.1.nm,.int .i64 x.s.1.n,.int .i64 x.s.1.d,.slice x.ad x.s.1.args.len x.cap,.int .i64 x.s.1.a,.string x.s.2]]
def ArgIn (F:Fence) (W0:World):Prop:=∀ (n:Nat) (W:World) (e c:PE) (ad:Option Addr) (cap:Nat) (way:ByteArray) (i:Nat),Below W0.heap.size W0 W → SpOK W0 e ad cap way → e.args.at i = some c →
 CallsIn F n Tryz.prog 99 #[spv e ad cap way,.int .i64 (i:Int)] W fun x w' => (∃ ad2 cap2,x = .returned (spv c ad2 cap2 (way ++ ⟨#[47]⟩ ++ dg i)) ∧ SpOK W0 c ad2 cap2 (way ++ ⟨#[47]⟩ ++ dg i)) ∧ Below W.heap.size W w'
theorem at_lt:∀ (l:PL) (i:Nat) (e:PE),l.at i = some e → i < l.len ∧ e.args.sz + 1 ≤ l.sz
 | .cons k nm n d args a tl,0,e,h => by
  injection h with h;subst h
  simp only [PL.len,PL.sz]
  omega
 | .cons _ _ _ _ args _ tl,i + 1,e,h => by
  have:=at_lt tl i e h
  simp only [PL.len,PL.sz]
  omega
theorem argCall_any {W0 w:World} (hl:Below W0.heap.size W0 w) (e c:PE) (ad:Option Addr) (cap:Nat) (way:ByteArray) (i:Nat) (h:SpOK W0 e ad cap way) (hc:e.args.at i = some c) :
  Calls Tryz.prog 99 #[spv e ad cap way,.int .i64 (i:Int)] w fun x w' => (∃ ad2 cap2,x = .returned (spv c ad2 cap2 (way ++ ⟨#[47]⟩ ++ dg i)) ∧ SpOK W0 c ad2 cap2 (way ++ ⟨#[47]⟩ ++ dg i)) ∧ Below w.heap.size w w':=by
 obtain ⟨h1,h2⟩:=at_lt _ _ _ hc
 have h3:=len_le_sz e.args
 have h4:=h.few
 have h5:=h.short
 have h6:=dg_size (i:=i) oq
 refine (arg_any hl e c ad cap way i h.mem hc h1 oq oq).mono ?_
 rintro x w' ⟨⟨ad2,cap2,hx,hae⟩,hb⟩
 refine ⟨⟨ad2,cap2,hx,⟨hae,ex_child h.good hc,?_,by omega⟩⟩,hb⟩
 have h7:(way ++ (⟨#[47]⟩:ByteArray) ++ dg i).size = way.size + 1 + (dg i).size:=by
  rw [ByteArray.size_append,ByteArray.size_append];rfl
 omega
theorem argIn_wide (W0:World):ArgIn Fence.wide W0:=fun n W e c ad cap way i hl h hc => callsIn_wide.2 (argCall_any hl e c ad cap way i h hc)
theorem abide_below {β:Type} {B:Nat} {J:β → World → Prop} (h:AbidesFrom B J) {s:β} {W W':World} (hs:J s W) (hb:Below W.heap.size W W'):J s W' :=
 h s W _ none hs ⟨hb.os,hb.tape,hb.output,hb.size,fun k hk _ => hb.block k hk⟩ (fun r e => by cases e)
def kept (o:Obj):Bool:=match o with
 | .cells _ t _ => t != 100
 | _ => false
theorem kept_cells {o:Obj} (h:kept o = true):o.isCells = true:=by
 cases o <;> first | rfl | exact Bool.noConfusion h
structure KF (n₀ Bk:Nat) (W W':World):Prop where
 below:Below n₀ W W'
 same:∀ (k:Nat) (o:Obj),Bk ≤ k → W.heap[k]? = some o → kept o = true → W'.heap[k]? = some o
theorem KF.refl (n₀ Bk:Nat) (W:World):KF n₀ Bk W W:=⟨Below.refl _ _,fun _ _ _ h _ => h⟩
theorem KF.trans {n₀ Bk:Nat} {A B C:World} (h:KF n₀ Bk A B) (k:KF n₀ Bk B C):KF n₀ Bk A C:=⟨h.below.trans k.below,fun i o hb hi ho => k.same i o hb (h.same i o hb hi ho) ho⟩
theorem KF.of_below {n₀ Bk:Nat} {A W W':World} (h:KF n₀ Bk A W) (hb:Below W.heap.size W W') (hn:n₀ ≤ W.heap.size):KF n₀ Bk A W' :=
 h.trans ⟨hb.mono hn,fun k o _ hk _ => (hb.block k (lt_of_block hk)).trans hk⟩
theorem KF.alloc {n₀ Bk:Nat} {A W:World} (h:KF n₀ Bk A W) (hn:n₀ ≤ W.heap.size) (o:Obj):KF n₀ Bk A (W.alloc o):=h.of_below ((Below.refl _ _).alloc (Nat.le_refl _) _) hn
theorem KC.kf {n₀:Nat} {A B:World} (h:KC n₀ A B) (Bk:Nat):KF n₀ Bk A B:=⟨h.below,fun k o _ hk ho => h.same k o hk (kept_cells ho)⟩
theorem KF.putObj {n₀ Bk:Nat} (W:World) (l:Nat) (o o':Obj) (hl:n₀ ≤ l) (h:W.heap[l]? = some o) (hc:o.isCells = false):KF n₀ Bk W (W.putObj l o'):=(KC.putObj W l o o' hl h hc).kf Bk
def VSAns {W0:World} (n₀ Bk:Nat) (J Jx:List (VS W0) → World → Prop) (pre:List (VS W0)) (e:PE) (way:ByteArray) (W:World) (x:Ending) (W':World):Prop :=
 (x = .returned (.bool true) ∧ (∃ ys:List (VS W0),ys.map (·.s) = spotsE e way ∧ J (pre ++ ys) W') ∧ KF n₀ Bk W W') ∨
  (x = .returned (.bool false) ∧ ∃ q:List (VS W0),q.map (·.s) <+: spotsE e way ∧ Jx (pre ++ q) W')
def VSRel {W0:World} (n₀ Bk:Nat) (J:List (VS W0) → World → Prop) (pre:List (VS W0)) (e:PE) (way:ByteArray) (W:World) (v:Value) (wr:World):Prop :=
 ∃ (i:Nat) (rest:PL) (ys:List (VS W0)),v = .int .i64 (i:Int) ∧ i + rest.len = e.args.len ∧ (∀ j,rest.at j = e.args.at (i + j)) ∧ rest.sz ≤ e.args.sz ∧ ys.map (·.s) ++ spotsL rest way i = spotsE e way ∧ J (pre ++ ys) wr ∧ KF n₀ Bk W wr
theorem at_tail {k n d a:Int} {nm:ByteArray} {args tl l:PL} {i:Nat} (h:∀ j,(PL.cons k nm n d args a tl).at j = l.at (i + j)):∀ j,tl.at j = l.at (i + 1 + j):=fun j => by
 have:=h (j + 1)
 rw [show i + 1 + j = i + (j + 1) by omega,← this]
 rfl
set_option maxRecDepth 100000 in
set_option maxHeartbeats 4000000 in
theorem visitS_step {W0:World} (F:Fence) (hd:F.depth = none) (hF:F.fn 139) (hA:F.fn 99) (hro:F.round = none) (hAI:ArgIn F W0) (l B Bk N:Nat) (J Jx:List (VS W0) → World → Prop) (hJ:AbidesFrom B J)
  (hY:∀ m pre x W,J pre W → pre.length < N → YieldAt F m Tryz.prog l x.vs W fun e W' => (e = .returned (.bool true) ∧ J (pre ++ [x]) W' ∧ KF W0.heap.size Bk W W') ∨ (e = .returned (.bool false) ∧ Jx (pre ++ [x]) W')) (e:PE)
  (ih:∀ e':PE,e'.args.sz < e.args.sz → ∀ (n:Nat) (ad:Option Addr) (cap:Nat) (way:ByteArray) (pre:List (VS W0)) (W:World),SpOK W0 e' ad cap way → Below W0.heap.size W0 W → Bk ≤ W.heap.size → J pre W → pre.length + e'.args.sz + 1 ≤ N →
   CallsIn F n Tryz.prog 139 #[spv e' ad cap way,.func (.yield l) #[] #[]] W (VSAns W0.heap.size Bk J Jx pre e' way W)) :
  ∀ (n:Nat) (ad:Option Addr) (cap:Nat) (way:ByteArray) (pre:List (VS W0)) (W:World),SpOK W0 e ad cap way → Below W0.heap.size W0 W → Bk ≤ W.heap.size → J pre W → pre.length + e.args.sz + 1 ≤ N →
   CallsIn F n Tryz.prog 139 #[spv e ad cap way,.func (.yield l) #[] #[]] W (VSAns W0.heap.size Bk J Jx pre e way W):=by
 intro n ad cap way pre W hae hb hBk hj hN
 obtain ⟨k,nm,nn,d,args,a⟩:=e
 have hlen:=hae.mem.len
 simp only at hlen hN ih ⊢
 have hdd:∀ k:Nat,(F.depth.isSome = true → 1 ≤ k):=fun k h => by rw [hd] at h;cases h
 have hsz0:=hb.size
 obtain ⟨X,hX1,hX2⟩:∃ X:VS W0,X.vs = #[.agg #[.int .i64 k,.string nm,.int .i64 nn,.int .i64 d,.slice ad args.len cap,.int .i64 a,.string way]] ∧ X.s = (⟨k,nm,nn,d,args,a⟩,way):=⟨⟨(⟨k,nm,nn,d,args,a⟩,way),ad,cap,hae⟩,rfl,rfl⟩
 obtain ⟨fn,tmps,assign,body,hy,hR⟩:=hY (n - 1) pre X (W.alloc (Obj.cells #[.int .i64 k,.string nm,.int .i64 nn,.int .i64 d,.slice ad args.len cap,.int .i64 a,.string way] 182)) (abide_alloc hJ hj _) oq
 rw [hX1] at hy
 have HX2:=hid hX2
 have HA:=hid hae
 have HB:=hid hb
 have HIH:=hid ih
 have HR:=hid hR
 have HAI:=hid hAI
 clear hX1 hX2 hae hb ih hR hj hAI
 unfold spv at *
 simp only at *
 refine callsIn_of_wp Tryz.func139 rfl hF ?_ hro
 simp only [Tryz.ntmps139,List.size_toArray,List.length_cons,List.length_nil,Nat.reduceAdd,Nat.reduceSub,Array.replicate_succ,Array.replicate_zero,List.push_toArray,List.append_toArray,List.nil_append,List.cons_append]
 gi_wp2
 refine HR.out.mono ?_
 rintro e W1 (⟨rfl,hJ1,hk1⟩ | ⟨rfl,hJx⟩)
 ·have hbox:=hk1.same W.heap.size _ hBk (heap_new W _) rfl
  obtain ⟨⟨x0,x1,x2,x3,x4,x5,x6⟩,xf⟩:=cells7s hbox
  have HJ1:=hid hJ1
  have HK1:=hid ((KF.refl W0.heap.size Bk W).alloc hsz0 _ |>.trans hk1)
  have HBX:=hid hbox
  clear hJ1 hk1 hbox
  gi_wp2
  gi_loopw [14] (fun v wr => Hid (VSRel W0.heap.size Bk J pre ⟨k,nm,nn,d,args,a⟩ way W1 v wr)) (fun i _ => args.len - (intOf i).toNat)
  case atStart => exact ⟨0,args,[X],rfl,by simp,by simp,Nat.le_refl _,by simp only [List.map_cons,List.map_nil,List.singleton_append,HX2.out,spotsE],HJ1.out,KF.refl _ _ _⟩
  case round =>
   obtain ⟨i,rest,ys,rfl,hil,hat,hsub,hys,hj2,hk2⟩:=hrel.out
   clear hrel
   have HK2:=hid hk2
   have HJ2:=hid hj2
   simp only at hil hat hsub
   have hbw:Below W0.heap.size W0 wr:=HB.out.trans (HK1.out.below.trans hk2.below)
   have hbox:=hk2.same W.heap.size _ hBk HBX.out rfl
   have hBr:Bk ≤ wr.heap.size:=Nat.le_trans hBk (HK1.out.below.trans hk2.below).size
   have HBW:=hid hbw
   have HAT:=hid hat
   have hszw:=hbw.size
   clear hk2 hj2 hbw hat
   cases rest with
   | nil =>
    have hil':(i:Int) = (args.len:Int):=by simp only [PL.len] at hil;omega
    simp only [spotsL,List.append_nil] at hys
    have HYS:=hid hys
    clear hys
    gi_wp2
    go_ret
    exact .inl ⟨rfl,⟨ys,HYS.out,HJ2.out⟩,HK1.out.trans HK2.out⟩
   | cons k1 nm1 n1 d1 args1 a1 tl =>
    have hil':(i:Int) < (args.len:Int):=by simp only [PL.len] at hil;omega
    obtain ⟨⟨x0,x1,x2,x3,x4,x5,x6⟩,xf⟩:=cells7s hbox
    have h0:=HAT.out 0
    have hlys:=congrArg List.length hys
    simp only [List.length_append,List.length_map,spotsL_sz,List.length_cons,PL.sz,spotsE] at hlys hsub
    have HARG:=hid (HAI.out (n - 1) wr ⟨k,nm,nn,d,args,a⟩ ⟨k1,nm1,n1,d1,args1,a1⟩ ad cap way i HBW.out HA.out h0.symm)
    have HC:=hid (fun w1 (hb1:Below wr.heap.size wr w1) ad1 cap1 (hsp:SpOK W0 ⟨k1,nm1,n1,d1,args1,a1⟩ ad1 cap1 (way ++ ⟨#[47]⟩ ++ dg i)) => HIH.out ⟨k1,nm1,n1,d1,args1,a1⟩ (by show args1.sz < args.sz;omega) (n - 1) ad1 cap1 (way ++ ⟨#[47]⟩ ++ dg i) (pre ++ ys) w1 hsp (HBW.out.trans (hb1.mono hszw)) (Nat.le_trans hBr hb1.size) (abide_below hJ HJ2.out hb1) (by simp only [List.length_append];omega))
    have HYS:=hid hys
    clear h0 hys hlys hbox
    gi_wp2_with ((try refine ⟨hdd _,?_⟩);first | (gi_at_call 99;refine HARG.out.mono ?_;rintro x w1 ⟨⟨ad1,cap1,rfl,hsp⟩,hb1⟩;unfold spv;simp only) | (gi_at_call 139;refine (HC.out _ hb1 _ _ hsp).mono ?_;rintro x w2 (⟨rfl,⟨zs,hzs,hj3⟩,hk3⟩ | ⟨rfl,q,hq,hjx⟩)))
    ·go_roundw
     case rel => exact ⟨i + 1,tl,ys ++ zs,by go_num,by simp only [PL.len] at hil;show i + 1 + tl.len = args.len;omega,at_tail HAT.out,by show tl.sz ≤ args.sz;omega,by rw [List.map_append,hzs,← HYS.out,spotsL,spotsE];simp,by rw [← List.append_assoc];exact hj3,(HK2.out.of_below hb1 hszw).trans hk3⟩
     case measure => simp [intOf];omega
    ·go_ret
     refine .inr ⟨rfl,ys ++ q,?_,by rw [← List.append_assoc];exact hjx⟩
     obtain ⟨r,hr⟩:=hq
     refine ⟨r ++ spotsL tl way (i + 1),?_⟩
     rw [List.map_append,← HYS.out,spotsL,← List.cons_append]
     unfold spotsE at hr
     rw [← hr]
     simp
 ·gi_wp2
  go_ret
  exact .inr ⟨rfl,[X],⟨spotsL args way 0,by simp only [List.map_cons,List.map_nil,List.singleton_append,HX2.out,spotsE]⟩,hJx⟩
theorem visitS_any {W0:World} (F:Fence) (hd:F.depth = none) (hF:F.fn 139) (hA:F.fn 99) (hro:F.round = none) (hAI:ArgIn F W0) (l B Bk N:Nat) (J Jx:List (VS W0) → World → Prop) (hJ:AbidesFrom B J)
  (hY:∀ m pre x W,J pre W → pre.length < N → YieldAt F m Tryz.prog l x.vs W fun e W' => (e = .returned (.bool true) ∧ J (pre ++ [x]) W' ∧ KF W0.heap.size Bk W W') ∨ (e = .returned (.bool false) ∧ Jx (pre ++ [x]) W')) :
  ∀ (e:PE) (n:Nat) (ad:Option Addr) (cap:Nat) (way:ByteArray) (pre:List (VS W0)) (W:World),SpOK W0 e ad cap way → Below W0.heap.size W0 W → Bk ≤ W.heap.size → J pre W → pre.length + e.args.sz + 1 ≤ N →
   CallsIn F n Tryz.prog 139 #[spv e ad cap way,.func (.yield l) #[] #[]] W (VSAns W0.heap.size Bk J Jx pre e way W):=by
 intro e
 suffices h:∀ (M:Nat) (e:PE),e.args.sz < M → ∀ (n:Nat) (ad:Option Addr) (cap:Nat) (way:ByteArray) (pre:List (VS W0)) (W:World),SpOK W0 e ad cap way → Below W0.heap.size W0 W → Bk ≤ W.heap.size → J pre W → pre.length + e.args.sz + 1 ≤ N →
   CallsIn F n Tryz.prog 139 #[spv e ad cap way,.func (.yield l) #[] #[]] W (VSAns W0.heap.size Bk J Jx pre e way W) from h _ e (Nat.lt_succ_self _)
 intro M
 induction M with
 | zero => intro e h;omega
 | succ M ih => intro e h;exact visitS_step F hd hF hA hro hAI l B Bk N J Jx hJ hY e (fun e' h' => ih e' oq)
set_option maxRecDepth 100000 in
set_option maxHeartbeats 4000000 in
theorem fwithin1_in {W0:World} (F:Fence) (hd:F.depth = none) (hG:F.fn 138) (hF:F.fn 139) (hA:F.fn 99) (hro:F.round = none) (hAI:ArgIn F W0) (n l B Bk Bs:Nat) (e:PE) (ad:Option Addr) (cap:Nat) (way:ByteArray)
  (hs:SpOK W0 e ad cap way) (J Jx:List (VS W0) → World → Prop) (hJ:AbidesFrom B J)
  (hY:∀ m pre x W,J pre W → pre.length < e.args.sz + 1 → YieldAt F m Tryz.prog l x.vs W fun e W' => (e = .returned (.bool true) ∧ J (pre ++ [x]) W' ∧ KF W0.heap.size Bk W W') ∨ (e = .returned (.bool false) ∧ Jx (pre ++ [x]) W'))
  (W:World) (hB:Below W0.heap.size W0 W) (hBk:Bk ≤ W.heap.size) (hbx:W.heap[Bs]? = some (.cells #[.int .i64 e.k,.string e.nm,.int .i64 e.n,.int .i64 e.d,.slice ad e.args.len cap,.int .i64 e.a,.string way] 182 (0,0))) (h0:J [] W) :
  CallsIn F n Tryz.prog 138 #[.func (.yield l) #[] #[],.pointer (some ⟨Bs,0,none⟩)] W fun x W' => (∃ v,x = .returned v) ∧
   ((∃ xs:List (VS W0),xs.map (·.s) = spotsE e way ∧ J xs W') ∨ (∃ pre:List (VS W0),pre.map (·.s) <+: spotsE e way ∧ Jx pre W')):=by
 have hdd:∀ k:Nat,(F.depth.isSome = true → 1 ≤ k):=fun k h => by rw [hd] at h;cases h
 have HC:=hid (visitS_any F hd hF hA hro hAI l B Bk (e.args.sz + 1) J Jx hJ hY e (n - 1) ad cap way [] W hs hB hBk h0 (by simp))
 obtain ⟨⟨x0,x1,x2,x3,x4,x5,x6⟩,xf⟩:=cells7s hbx
 clear hY hB h0 hAI hs hbx
 unfold spv at HC
 refine callsIn_of_wp Tryz.func138 rfl hG ?_ hro
 simp only [Tryz.ntmps138,List.size_toArray,List.length_cons,List.length_nil,Nat.reduceAdd,Nat.reduceSub,Array.replicate_succ,Array.replicate_zero,List.push_toArray,List.append_toArray,List.nil_append,List.cons_append]
 gi_wp2_with ((try refine ⟨hdd _,?_⟩);gi_at_call 139;refine HC.out.mono ?_;rintro x w2 (⟨rfl,⟨zs,hzs,hj3⟩,hk3⟩ | ⟨rfl,q,hq,hjx⟩))
 ·go_end0
  exact ⟨⟨_,rfl⟩,.inl ⟨zs,hzs,by simpa using hj3⟩⟩
 ·go_end0
  exact ⟨⟨_,rfl⟩,.inr ⟨q,hq,by simpa using hjx⟩⟩
theorem fwithin_stops {W0:World} (F:Fence) (hd:F.depth = none) (hG:F.fn 138) (hF:F.fn 139) (hA:F.fn 99) (hro:F.round = none) (hAI:ArgIn F W0) (n Bs:Nat) (e:PE) (ad:Option Addr) (cap:Nat) (way:ByteArray)
  (hs:SpOK W0 e ad cap way) (w:World) (Bk:Nat) (hBk:Bk ≤ w.heap.size) (hB:Below W0.heap.size W0 w) (hbx:w.heap[Bs]? = some (.cells #[.int .i64 e.k,.string e.nm,.int .i64 e.n,.int .i64 e.d,.slice ad e.args.len cap,.int .i64 e.a,.string way] 182 (0,0))) :
  SeqStopsK F n Tryz.prog 138 #[.pointer (some ⟨Bs,0,none⟩)] (fun x:VS W0 => x.vs) (KF W0.heap.size Bk) (fun xs => xs.map (·.s) = spotsE e way) (fun pre => pre.map (·.s) <+: spotsE e way) (e.args.sz + 1) w:=fun l J Jx W hW hJ hJx hY h0 =>
 fwithin1_in F hd hG hF hA hro hAI n l W.heap.size Bk Bs e ad cap way hs J Jx hJ (fun m pre x W hj hl => YieldAt.deep hd m (hY pre x W hj hl)) W (hB.trans (hW.mono hB.size)) (Nat.le_trans hBk hW.size) ((hW.block Bs (lt_of_block hbx)).trans hbx) h0
def CkAt (w:World) (b:Nat) (l:List (Int × Int)):Prop:=∀ i (h:i < l.length),w.cell? ⟨b,i * 2,none⟩ = some (.int .i64 l[i].1) ∧ w.cell? ⟨b,i * 2 + 1,none⟩ = some (.int .i64 l[i].2)
def EqRel (w W:World) (l1 l2:List (Int × Int)) (v:Value) (wr:World):Prop :=
 ∃ i:Nat,v = .int .i64 (i:Int) ∧ i ≤ l1.length ∧ l1.take i = l2.take i ∧ Below w.heap.size w wr
set_option maxRecDepth 100000 in
set_option maxHeartbeats 4000000 in
theorem equalClocks_any {w:World} (l1 l2:List (Int × Int)) (b1 b2:Nat) (hb1:b1 < w.heap.size) (hb2:b2 < w.heap.size) (h1:CkAt w b1 l1) (h2:CkAt w b2 l2) (hl:l1.length ≤ 1000) (hl2:l2.length ≤ 1000) :
  Calls Tryz.prog 92 #[.slice (some ⟨b1,0,none⟩) l1.length l1.length,.slice (some ⟨b2,0,none⟩) l2.length l2.length] w fun x w' => x = .returned (.bool (decide (l1 = l2))) ∧ Below w.heap.size w w':=by
 have H1:=hid h1
 have H2:=hid h2
 clear h1 h2
 go_enter Tryz.func92,Tryz.ntmps92
 by_cases hne:l1.length = l2.length
 ·have hq:((l1.length:Int) != (l2.length:Int)) = false:=by simp [hne]
  go_wp2
  go_loopw [13] (fun v wr => Hid (EqRel w w l1 l2 v wr)) (fun i _ => l1.length - (intOf i).toNat)
  case atStart => exact ⟨0,rfl,Nat.zero_le _,rfl,Below.refl _ _⟩
  case round =>
   obtain ⟨i,rfl,hi,htk,hB⟩:=hrel.out
   clear hrel
   by_cases hlt:i < l1.length
   ·have hlt':(i:Int) < (l1.length:Int):=by omega
    have hlt2:(i:Int) < (l2.length:Int):=by omega
    have hi2:i < l2.length:=by omega
    obtain ⟨c1,d1⟩:=H1.out i hlt
    obtain ⟨c2,d2⟩:=H2.out i hi2
    have g1:wr.cell? ⟨b1,i * 2,none⟩ = _:=(hB.cell (p:=⟨b1,i * 2,none⟩) hb1).trans c1
    have g2:wr.cell? ⟨b1,i * 2 + 1,none⟩ = _:=(hB.cell (p:=⟨b1,i * 2 + 1,none⟩) hb1).trans d1
    have g3:wr.cell? ⟨b2,i * 2,none⟩ = _:=(hB.cell (p:=⟨b2,i * 2,none⟩) hb2).trans c2
    have g4:wr.cell? ⟨b2,i * 2 + 1,none⟩ = _:=(hB.cell (p:=⟨b2,i * 2 + 1,none⟩) hb2).trans d2
    obtain ⟨⟨p1,q1⟩,hp1⟩:∃ c,l1[i] = c:=⟨_,rfl⟩
    obtain ⟨⟨p2,q2⟩,hp2⟩:∃ c,l2[i] = c:=⟨_,rfl⟩
    rw [hp1] at g1 g2
    rw [hp2] at g3 g4
    simp only at g1 g2 g3 g4
    have HP1:=hid hp1
    have HP2:=hid hp2
    have HTK:=hid htk
    have HB:=hid hB
    clear c1 d1 c2 d2 hp1 hp2 htk hB
    by_cases hcc:p1 = p2 ∧ q1 = q2
    ·obtain ⟨e1,e2⟩:=hcc
     subst e1 e2
     have hq2:=fun w => eq_clock p1 q1 p1 q1 w
     simp only [and_self,decide_true] at hq2
     have HT2:=hid (show l1.take (i + 1) = l2.take (i + 1) by
      rw [List.take_succ_eq_append_getElem hlt,List.take_succ_eq_append_getElem hi2,HTK.out,HP1.out,HP2.out])
     go_wp2
     go_quiet (fail)
     go_wp2
     exact ⟨⟨i + 1,by go_num,by omega,HT2.out,bq⟩,by simp [intOf];omega⟩
    ·have HD:=hid (show decide (l1 = l2) = false from decide_eq_false (fun e => hcc (by
      subst e
      have:=HP1.out.symm.trans HP2.out
      injection this with h1 h2
      exact ⟨h1,h2⟩)))
     by_cases he:p1 = p2
     ·subst he
      have he2:¬ q1 = q2:=fun e => hcc ⟨rfl,e⟩
      have hq2:=fun w => eq_clock p1 q1 p1 q2 w
      simp only [true_and,decide_eq_false he2] at hq2
      clear hcc
      go_wp2
      go_quiet (fail)
      go_wp2
      go_ret
      exact ⟨by rw [HD.out];rfl,bq⟩
     ·have hq2:=fun w => eq_clock p1 q1 p2 q2 w
      simp only [he,false_and,decide_false] at hq2
      clear hcc
      go_wp2
      go_quiet (fail)
      go_wp2
      go_ret
      exact ⟨by rw [HD.out];rfl,bq⟩
   ·have hi':i = l1.length:=by omega
    have heq:l1 = l2:=by
     subst hi'
     rw [List.take_length,hne,List.take_length] at htk
     exact htk
    have hlt':¬ (i:Int) < (l1.length:Int):=by omega
    have HE:=hid heq
    have HB:=hid hB
    clear heq hB htk
    go_wp2
    go_ret
    exact ⟨by rw [decide_eq_true HE.out];rfl,HB.out⟩
 ·have hq:((l1.length:Int) != (l2.length:Int)) = true:=by
   rw [bne_iff_ne];omega
  have hd:decide (l1 = l2) = false:=decide_eq_false (fun e => hne (by rw [e]))
  rw [hd]
  go_wp2
  go_ret
  exact ⟨rfl,bq⟩
open Go.RowKit Go.Shelf
attribute [local go_sem] Oper.semAt_some
def mk (D:Nat):Deferred:={ target:=.collected D,args:=#[] }
def Mks (n₀:Nat) (Ds:List Nat) (w:World):Prop:=(∀ D ∈ Ds,n₀ ≤ D ∧ w.heap[D]? = some (.deferred (some []))) ∧ Ds.Nodup
theorem Mks.below {n₀:Nat} {Ds:List Nat} {w w':World} (h:Mks n₀ Ds w) (hb:Below w.heap.size w w'):Mks n₀ Ds w' :=
 ⟨fun D hD => ⟨(h.1 D hD).1,(hb.block D (lt_of_block (h.1 D hD).2)).trans (h.1 D hD).2⟩,h.2⟩
theorem Mks.cons {n₀:Nat} {Ds:List Nat} {w w':World} (h:Mks n₀ Ds w) (hb:Below w.heap.size w w') {D:Nat} (hn:n₀ ≤ w.heap.size) (hD:w.heap.size ≤ D) (hk:w'.heap[D]? = some (.deferred (some []))):Mks n₀ (D :: Ds) w':=by
 have h':=h.below hb
 refine ⟨fun D' hD' => ?_,List.nodup_cons.2 ⟨fun hm => ?_,h'.2⟩⟩
 ·rcases List.mem_cons.1 hD' with rfl | hm
  ·exact ⟨Nat.le_trans hn hD,hk⟩
  ·exact h'.1 D' hm
 ·have:=lt_of_block (h.1 D hm).2
  omega
theorem Mks.set {n₀:Nat} {Ds:List Nat} {w:World} (h:Mks n₀ Ds w) (p:Addr) (v:Value):Mks n₀ Ds (w.setCell p v) :=
 ⟨fun D hD => ⟨(h.1 D hD).1,(KeepsOthers.setCell _ _ _).same D _ (h.1 D hD).2 rfl⟩,h.2⟩
theorem leaves_mks {F:Fence} {n:Nat} {P:Program} {fn:Func} {tmps:Array Value} {R:Ending → World → Prop} {n₀:Nat}:∀ (Ds:List Nat) (w:World),Mks n₀ Ds w →
  (∀ w',KC n₀ w w' → LeavesInM F n P fn tmps R [] .returning w') → LeavesInM F n P fn tmps R (Ds.map mk) .returning w
 | [],w,_,h => h w (KC.refl _ _)
 | D :: Ds,w,hM,h => by
  have hD:=hM.1 D (by simp)
  have hk:=KC.putObj (n₀:=n₀) w D _ (.deferred none) hD.1 hD.2 rfl
  refine ⟨by simp,.inl ⟨_,_,rfl,run_takeDeferred hD.2,?_⟩⟩
  refine leaves_mks Ds _ ⟨fun D' hD' => ⟨(hM.1 D' (by simp [hD'])).1,?_⟩,(List.nodup_cons.1 hM.2).2⟩ (fun w' hw' => h w' (hk.trans hw'))
  have hne:D' ≠ D:=fun e => (List.nodup_cons.1 hM.2).1 (e ▸ hD')
  exact ((grownBy_putObj' w D (.deferred none)).block D' (lt_of_block (hM.1 D' (by simp [hD'])).2) (by intro e;injection e with e;exact hne e)).trans (hM.1 D' (by simp [hD'])).2
def PBox2 (W:World) (b:Nat) (p:PG) (an ai af ao:Option Addr) (cn ci cf co:Nat):Prop:=W.heap[b]? = some (.cells #[.slice an p.nodes.length cn,.slice ai p.ins.length ci,.slice af p.flows.length cf,.slice ao p.outs.length co] 27 (0,0))
def AskF (p:PG) (l:List (Int × Int)) (x:Ending):Prop:=(∃ a e,e ≠ 0 ∧ x = .returned (.tuple #[.int .i64 a,.int .i64 e])) ∨ (x = .returned (.tuple #[.int .i64 0,.int .i64 0]) ∧ ∃ env,ClkF p env ∧ l = p.flows.map (fun f => clkAt env f.nm))
def CkA (w:World) (p:PG) (x:Ending) (w':World):Prop :=
 ((∃ a e,e ≠ 0 ∧ (e != 0) = true ∧ x = .returned (.tuple #[.slice none 0 0,.int .i64 a,.int .i64 e])) ∨ ∃ l' b' env,x = .returned (.tuple #[.slice (some ⟨b',0,none⟩) l'.length l'.length,.int .i64 0,.int .i64 0]) ∧ ClkF p env ∧ p.flows.map (fun f => clkAt env f.nm) = l' ∧ b' < w'.heap.size ∧ CkAt w' b' l' ∧ l'.length ≤ 1000) ∧ Below w.heap.size w w'
theorem checkF_any {w:World} (p:PG) (an ai af ao:Option Addr) (cn ci cf co:Nat) (hp:AP w p an ai af ao cn ci cf co) (hz:NZ w p.nodes an) (hok:PgOK p) :
  Calls Tryz.prog 91 #[pv p an ai af ao cn ci cf co] w (CkA w p):=by
 refine (check_gen p an ai af ao cn ci cf co hp hz hok).mono ?_
 rintro x w' ⟨⟨a,e,he,rfl⟩ | ⟨v,env,rfl,hcf,b,rfl,hb,hr⟩,hB⟩
 ·exact ⟨.inl ⟨a,e,he,bne_iff_ne.2 he,rfl⟩,hB⟩
 ·exact ⟨.inr ⟨_,b,env,rfl,hcf,rfl,hb,hr,by rw [List.length_map];have:=hok.lens;omega⟩,hB⟩
set_option maxRecDepth 100000 in
set_option maxHeartbeats 4000000 in
theorem fask_any {w:World} (p:PG) (an ai af ao:Option Addr) (cn ci cf co:Nat) (hp:AP w p an ai af ao cn ci cf co) (hz:NZ w p.nodes an) (hok:PgOK p) (l:List (Int × Int)) (bc:Nat) (hbc:bc < w.heap.size) (hl:l.length ≤ 1000) (hc:CkAt w bc l) :
  Calls Tryz.prog 49 #[pv p an ai af ao cn ci cf co,.slice (some ⟨bc,0,none⟩) l.length l.length] w fun x w' => AskF p l x ∧ Below w.heap.size w w':=by
 have HCK:=hid (fun (w':World) (hb:Below w.heap.size w w') => checkF_any (w:=w') p an ai af ao cn ci cf co (hp.below hb) (hz.below hp.nodes hb) hok)
 have HFS:=hid (fun (w':World) (hb:Below w.heap.size w w') => flowSpot_any hb p an ai af ao cn ci cf co hp)
 have hll:=hok.lens
 have hfl:=hok.flows
 have HC:=hid (show ∀ w':World,Below w.heap.size w w' → CkAt w' bc l from fun w' hb i h => ⟨(hb.cell (p:=⟨bc,i * 2,none⟩) hbc).trans (hc i h).1,(hb.cell (p:=⟨bc,i * 2 + 1,none⟩) hbc).trans (hc i h).2⟩)
 have HP:=hid hp
 obtain ⟨nodes,ins,flows,outs⟩:=p
 have HFL:=hid hfl
 clear hp hz hok hc hfl
 unfold pv CkA at *
 simp only at HCK HFS hll HFL ⊢
 refine (callsIn_wide (n:=6)).1 ?_
 refine callsIn_of_wp_marks Tryz.func49 rfl trivial ?_ rfl
 simp only [Tryz.ntmps49,List.size_toArray,List.length_cons,List.length_nil,Nat.reduceAdd,Nat.reduceSub,Array.replicate_succ,Array.replicate_zero,List.push_toArray,List.append_toArray,List.nil_append,List.cons_append]
 gi_wp2_with (refine ⟨trivial,?_⟩;first | (gi_at_call 91;refine (callsIn_wide.2 (HCK.out _ bq)).mono ?_;rintro x w1 ⟨hx,hb1⟩;obtain ⟨hc1,hf1⟩:=bcell hb1;have b1:=hb1.size;simp only [World.size_alloc] at b1;have hpb1:PBox2 w1 w.heap.size ⟨nodes,ins,flows,outs⟩ an ai af ao cn ci cf co:=(hb1.block _ (by simp;omega)).trans ((Below.heap_alloc _ _ _ (by simp;omega)).trans ((Below.heap_alloc _ _ _ (by simp)).trans (heap_new w _)));have bA1:Boxed w1 (w.heap.size + 1) 3 (.int .i64 0):=(hb1.block _ (by simp)).trans ((Below.heap_alloc _ _ _ (by simp)).trans (by simpa using heap_new (w.alloc _) _));have bE1:Boxed w1 (w.heap.size + 1 + 1) 39 (.int .i64 0):=(hb1.block _ (by simp)).trans (by simpa using heap_new ((w.alloc _).alloc _) _);rcases hx with ⟨a2,e2,he2,he3,rfl⟩ | ⟨l',b',env,rfl,hcf,hl',hb',hrow,hl''⟩) | (gi_at_call 92;refine (callsIn_wide.2 (equalClocks_any l' l b' bc hb' oq hrow (HC.out _ bq) hl'' hl)).mono ?_;rintro x w2 ⟨rfl,hb2⟩;have hB2:Below w.heap.size w w2:=bq;have b2:=hb2.size;have hpb2:PBox2 w2 w.heap.size ⟨nodes,ins,flows,outs⟩ an ai af ao cn ci cf co:=(hb2.block _ oq).trans hpb1;have bA2:Boxed w2 (w.heap.size + 1) 3 (.int .i64 0):=(hb2.block _ oq).trans bA1;have bE2:Boxed w2 (w.heap.size + 1 + 1) 39 (.int .i64 0):=(hb2.block _ oq).trans bE1;obtain ⟨⟨x0,x1,x2,x3⟩,xf⟩:=cells4 hpb2;have cA:=bA2.cell;have fA:=bA2.frozen;have cE:=bE2.cell;have fE:=bE2.frozen;clear hb1 hb2 hc1 hf1 hpb1 bA1 bE1;cases hd:decide (l' = l)))
 ·have bA3:=((bA1.set (.int .i64 a2)).other (show w.heap.size + 1 ≠ w.heap.size + 1 + 1 by omega) (.int .i64 e2)).cell
  have bE3:=((bE1.other (show w.heap.size + 1 + 1 ≠ w.heap.size + 1 by omega) (.int .i64 a2)).set (.int .i64 e2)).cell
  refine ⟨.tuple #[.int .i64 a2,.int .i64 e2],?_,?_,?_⟩
  ·simp only [results,Tryz.results49];go_simp
  ·exact .inl ⟨a2,e2,he2,rfl⟩
  ·exact bq
 ·have bA3:=((bA2.set (.int .i64 0)).other (show w.heap.size + 1 ≠ w.heap.size + 1 + 1 by omega) (.int .i64 12)).cell
  have bE3:=((bE2.other (show w.heap.size + 1 + 1 ≠ w.heap.size + 1 by omega) (.int .i64 0)).set (.int .i64 12)).cell
  refine ⟨.tuple #[.int .i64 0,.int .i64 12],?_,?_,?_⟩
  ·simp only [results,Tryz.results49];go_simp
  ·exact .inl ⟨0,12,by decide,rfl⟩
  ·exact (hB2.setCell (p:=⟨w.heap.size + 1,0,none⟩) (by simp) _).setCell (p:=⟨w.heap.size + 1 + 1,0,none⟩) (by simp;omega) _
 ·have hll':l' = l:=of_decide_eq_true hd
  subst hll'
  have HEND:=hid (show AskF ⟨nodes,ins,flows,outs⟩ l' (.returned (.tuple #[.int .i64 0,.int .i64 0])) from .inr ⟨rfl,env,hcf,hl'.symm⟩)
  have HB2:=hid hB2
  have HPB:=hid hpb2
  have HA2:=hid bA2
  have HE2:=hid bE2
  clear hcf hl' hB2 hpb2 bA2 bE2 x0 x1 x2 x3 xf cA fA cE fE hrow hd hl'' HCK
  have hsw2:w.heap.size + 3 ≤ w2.heap.size:=by omega
  refine wpIn_loop (fun a' wr => ∃ (u9 u29 u30 u31 u32 u33 u34 u43:Value) (i:Nat) (Ds:List Nat),(i ≤ flows.length ∧ Mks w.heap.size Ds wr ∧ Below w2.heap.size w2 wr) ∧ a' = { tmps:=#[.agg #[.slice an nodes.length cn,.slice ai ins.length ci,.slice af flows.length cf,.slice ao outs.length co],.slice (some ⟨bc,0,none⟩) l'.length l'.length,.pointer (some ⟨w.heap.size,0,none⟩),undef,.pointer (some ⟨w.heap.size + 1,0,none⟩),.pointer (some ⟨w.heap.size + 1 + 1,0,none⟩),.slice (some ⟨b',0,none⟩) l'.length l'.length,.int .i64 0,.int .i64 0,u9,undef,.tuple #[.slice (some ⟨b',0,none⟩) l'.length l'.length,.int .i64 0,.int .i64 0],.agg #[.slice an nodes.length cn,.slice ai ins.length ci,.slice af flows.length cf,.slice ao outs.length co],.tuple #[.slice (some ⟨b',0,none⟩) l'.length l'.length,.int .i64 0,.int .i64 0],.slice (some ⟨b',0,none⟩) l'.length l'.length,.int .i64 0,.int .i64 0,.int .i64 0,.bool false,undef,undef,.slice (some ⟨b',0,none⟩) l'.length l'.length,.slice (some ⟨bc,0,none⟩) l'.length l'.length,.bool true,.bool false,.pointer (some ⟨w.heap.size,2,none⟩),.slice af flows.length cf,.int .i64 (flows.length:Int),.int .i64 (i:Int),u29,u30,u31,u32,u33,u34,undef,undef,undef,undef,undef,undef,undef,undef,u43],defers:=Ds.map mk }) (fun a' _ => flows.length - (intOf (a'.tmps.getD 28 undef)).toNat) ⟨_,_,_,_,_,_,_,_,0,[],⟨Nat.zero_le _,⟨by simp,List.nodup_nil⟩,Below.refl _ _⟩,rfl⟩ ?_
  rintro _ wr ⟨u9,u29,u30,u31,u32,u33,u34,u43,i,Ds,⟨hi,hM,hbw⟩,rfl⟩
  dsimp only
  have hszw:=hbw.size
  have HM:=hid hM
  have HBW:=hid (HB2.out.trans (hbw.mono oq))
  have hA:=(hbw.block _ oq).trans HA2.out
  have hE:=(hbw.block _ oq).trans HE2.out
  have hpb:=(hbw.block _ oq).trans HPB.out
  have HBR:=hid hbw
  have bA2:Boxed wr (w.heap.size + 1) 3 (.int .i64 0):=hA
  have bE2:Boxed wr (w.heap.size + 1 + 1) 39 (.int .i64 0):=hE
  clear hM hbw hA hE
  by_cases hlt:i < flows.length
  ·have hil:(i:Int) < (flows.length:Int):=by omega
   obtain ⟨⟨x0,x1,x2,x3⟩,xf⟩:=cells4 hpb
   obtain ⟨hf1,hf2⟩:=HFL.out _ (List.getElem_mem hlt)
   obtain ⟨f,hf⟩:∃ f,flows[i] = f:=⟨_,rfl⟩
   have HFC:=hid (HFS.out wr HBW.out i hlt oq)
   rw [hf] at HFC hf1 hf2
   obtain ⟨fnm,⟨k1,nm1,n1,d1,args1,a1⟩,fa⟩:=f
   unfold PE.sz at hf1
   have HG2:=hid hf2
   have hdg:=dg_size (i:=i) oq
   unfold spv at HFC
   simp only at HFC hf1
   clear hf hf2 hpb
   gi_wp2_with (refine ⟨trivial,?_⟩;first | (gi_at_call 94;refine (callsIn_wide.2 HFC.out).mono ?_;rintro x w3 ⟨⟨ad2,cap2,rfl,hae⟩,hb3⟩) | (gi_at_call 93;refine (callsIn_wide.2 (fwithin_any (w:=w3) ⟨k1,nm1,n1,d1,args1,a1⟩ ad2 cap2 (dg i))).mono ?_;rintro x w4 ⟨rfl,rfl⟩))
   have HSP:=hid (show SpOK w ⟨k1,nm1,n1,d1,args1,a1⟩ ad2 cap2 (dg i) from ⟨hae,HG2.out,by show (dg i).size + 3 * args1.sz ≤ 500;omega,by show args1.sz < 100;omega⟩)
   have bX:=heap_new w3 (.cells #[.int .i64 k1,.string nm1,.int .i64 n1,.int .i64 d1,.slice ad2 args1.len cap2,.int .i64 a1,.string (dg i)] 182)
   have hb4:Below wr.heap.size wr (w3.alloc (.cells #[.int .i64 k1,.string nm1,.int .i64 n1,.int .i64 d1,.slice ad2 args1.len cap2,.int .i64 a1,.string (dg i)] 182)):=hb3.alloc hb3.size _
   have hsz1:(w3.alloc (.cells #[.int .i64 k1,.string nm1,.int .i64 n1,.int .i64 d1,.slice ad2 args1.len cap2,.int .i64 a1,.string (dg i)] 182)).heap.size = w3.heap.size + 1:=by simp
   have hs3:=hb3.size
   obtain ⟨W1,hW1⟩:∃ W1,w3.alloc (.cells #[.int .i64 k1,.string nm1,.int .i64 n1,.int .i64 d1,.slice ad2 args1.len cap2,.int .i64 a1,.string (dg i)] 182) = W1:=⟨_,rfl⟩
   rw [hW1] at bX hb4 hsz1 ⊢
   have HB4:=hid hb4
   have HWL:=hid (show Below w.heap.size w W1 from HBW.out.trans (hb4.mono oq))
   have hszw1:w.heap.size ≤ W1.heap.size:=by omega
   have HBX:=hid bX
   clear hW1 hb4 hae hb3 bX bA2 bE2 x0 x1 x2 x3 xf HFC
   refine wpIn_rangeFunc_ownH (encs:=fun x:VS w => #[.agg #[.int .i64 x.s.1.k,.string x.s.1.nm,.int .i64 x.s.1.n,.int .i64 x.s.1.d,.slice x.ad x.s.1.args.len x.cap,.int .i64 x.s.1.a,.string x.s.2]]) rfl oq (gf:=138) (lb:=#[.pointer (some ⟨w3.heap.size,0,none⟩)]) rfl trivial (enters_of Tryz.func138 (by kernel_rfl) rfl)
    (fwithin_stops (W0:=w) Fence.wide rfl trivial trivial trivial rfl (argIn_wide w) _ w3.heap.size ⟨k1,nm1,n1,d1,args1,a1⟩ ad2 cap2 (dg i) HSP.out W1 W1.heap.size (Nat.le_refl _) HWL.out HBX.out) (fun h k => h.trans k) (fun W l o o' hl h hc _ => KF.putObj W l o o' oq h hc) (Below.refl _ _) (fun _ => rfl)
    (fun pre W => Below W1.heap.size W1 W)
    (fun c pre W => False)
    (ownFrom_below (Nat.le_refl _) (Nat.le_refl _))
    (fun c s X Y row hs _ _ => hs.elim)
    (Below.refl _ _)
    (fun x a' W => ∃ Bx,W1.heap.size ≤ Bx ∧ W.heap[Bx]? = some (.cells #[.int .i64 x.s.1.k,.string x.s.1.nm,.int .i64 x.s.1.n,.int .i64 x.s.1.d,.slice x.ad x.s.1.args.len x.cap,.int .i64 x.s.1.a,.string x.s.2] 182 (0,0)) ∧
     ∃ A0:Array Value,a' = { tmps:=#[A0.getD 0 undef,A0.getD 1 undef,A0.getD 2 undef,A0.getD 3 undef,A0.getD 4 undef,A0.getD 5 undef,A0.getD 6 undef,A0.getD 7 undef,A0.getD 8 undef,A0.getD 9 undef,.pointer (some ⟨Bx,0,none⟩),A0.getD 11 undef,A0.getD 12 undef,A0.getD 13 undef,A0.getD 14 undef,A0.getD 15 undef,A0.getD 16 undef,A0.getD 17 undef,A0.getD 18 undef,A0.getD 19 undef,A0.getD 20 undef,A0.getD 21 undef,A0.getD 22 undef,A0.getD 23 undef,A0.getD 24 undef,A0.getD 25 undef,A0.getD 26 undef,A0.getD 27 undef,A0.getD 28 undef,A0.getD 29 undef,A0.getD 30 undef,A0.getD 31 undef,A0.getD 32 undef,A0.getD 33 undef,A0.getD 34 undef,A0.getD 35 undef,A0.getD 36 undef,A0.getD 37 undef,A0.getD 38 undef,A0.getD 39 undef,A0.getD 40 undef,A0.getD 41 undef,A0.getD 42 undef,A0.getD 43 undef],defers:=[] })
    (fun x a' _ X Y row hs hg hrw => by
     obtain ⟨Bx,h1,h2,h3⟩:=hs
     refine ⟨Bx,h1,(hg.block Bx (Array.getElem?_eq_some_iff.1 h2).1 (fun e => ?_)).trans h2,h3⟩
     obtain ⟨_,o,ho,hc⟩:=hrw Bx e.symm
     rw [h2] at ho;cases ho;cases hc)
    ?assign ?body ?done ?stop
   case assign =>
    rintro l pre x W K hBW hK
    gi_wp2
    exact hK _ _ ((KeepsOthers.alloc _ _).from _) ((KF.refl _ _ W).alloc (Nat.le_trans hszw1 hBW.size) _) (hBW.alloc hBW.size _) ⟨W.heap.size,hBW.size,heap_new W _,⟨#[.agg #[.slice an nodes.length cn,.slice ai ins.length ci,.slice af flows.length cf,.slice ao outs.length co],.slice (some ⟨bc,0,none⟩) l'.length l'.length,.pointer (some ⟨w.heap.size,0,none⟩),undef,.pointer (some ⟨w.heap.size + 1,0,none⟩),.pointer (some ⟨w.heap.size + 1 + 1,0,none⟩),.slice (some ⟨b',0,none⟩) l'.length l'.length,.int .i64 0,.int .i64 0,.int .i64 (i:Int),undef,.tuple #[.slice (some ⟨b',0,none⟩) l'.length l'.length,.int .i64 0,.int .i64 0],.agg #[.slice an nodes.length cn,.slice ai ins.length ci,.slice af flows.length cf,.slice ao outs.length co],.tuple #[.slice (some ⟨b',0,none⟩) l'.length l'.length,.int .i64 0,.int .i64 0],.slice (some ⟨b',0,none⟩) l'.length l'.length,.int .i64 0,.int .i64 0,.int .i64 0,.bool false,undef,undef,.slice (some ⟨b',0,none⟩) l'.length l'.length,.slice (some ⟨bc,0,none⟩) l'.length l'.length,.bool true,.bool false,.pointer (some ⟨w.heap.size,2,none⟩),.slice af flows.length cf,.int .i64 (flows.length:Int),.int .i64 (i:Int),.bool true,.int .i64 (i:Int),.agg #[.slice an nodes.length cn,.slice ai ins.length ci,.slice af flows.length cf,.slice ao outs.length co],.int .i64 (i:Int),.agg #[.int .i64 k1,.string nm1,.int .i64 n1,.int .i64 d1,.slice ad2 args1.len cap2,.int .i64 a1,.string (dg i)],.func (.func 138) #[] #[.pointer (some ⟨w3.heap.size,0,none⟩)],.agg #[.int .i64 x.s.1.k,.string x.s.1.nm,.int .i64 x.s.1.n,.int .i64 x.s.1.d,.slice x.ad x.s.1.args.len x.cap,.int .i64 x.s.1.a,.string x.s.2],undef,undef,undef,undef,undef,undef,undef,u43],rfl⟩⟩
   case body =>
    rintro l pre ⟨⟨⟨k2,nm2,n2,d2,args2,a2⟩,way2⟩,ad3,cap3,hok⟩ a' W hl ⟨r,hr⟩ hBW ⟨Bx,hBx,hxb,A0,rfl⟩ hlt2
    simp only at hxb
    obtain ⟨⟨x0,x1,x2,x3,x4,x5,x6⟩,xf⟩:=cells7s hxb
    have hsW:=hBW.size
    have HSH:=hid (shaped_any (w:=W) ⟨k2,nm2,n2,d2,args2,a2⟩ ad3 cap3 hok.good)
    unfold ev at HSH
    simp only at HSH
    have HBW2:=hid hBW
    clear hBW hxb hr
    gi_wp2_with (refine ⟨trivial,?_⟩;gi_at_call 95;refine (CallsIn.inRound l (callsIn_wide.2 HSH.out)).mono ?_;rintro e w5 ⟨rfl,hb5⟩)
    exact ⟨⟨hb5.size,fun k o _ hk _ => (hb5.block k (lt_of_block hk)).trans hk⟩,(KF.refl _ _ W).of_below hb5 (Nat.le_trans hszw1 hsW),HBW2.out.trans (hb5.mono hsW)⟩
   case done =>
    rintro D zs W hD hzs hBW hK
    gi_wp2
    rw [show ((i:Int) + 1) = ((i + 1:Nat):Int) by omega]
    refine ⟨⟨_,_,_,_,_,_,_,_,i + 1,D :: Ds,⟨by omega,HM.out.cons (HB4.out.trans (hBW.mono oq)) oq oq hK,HBR.out.trans ((HB4.out.trans (hBW.mono oq)).mono oq)⟩,rfl⟩,by simp [intOf];omega⟩
   case stop =>
    rintro D c pre W hD hpre hf hK
    exact hf.elim
  ·have hie:¬ (i:Int) < (flows.length:Int):=by omega
   have cA:=bA2.cell
   have fA:=bA2.frozen
   have cE:=bE2.cell
   have fE:=bE2.frozen
   gi_wp2
   refine leaves_mks Ds _ ((HM.out.set _ _).set _ _) (fun w' hk => ?_)
   have bA3:=hk.same _ _ ((bA2.set (.int .i64 0)).other (show w.heap.size + 1 ≠ w.heap.size + 1 + 1 by omega) (.int .i64 0)) rfl
   have bE3:=hk.same _ _ ((bE2.other (show w.heap.size + 1 + 1 ≠ w.heap.size + 1 by omega) (.int .i64 0)).set (.int .i64 0)) rfl
   have bA4:=(show Boxed w' _ _ _ from bA3).cell
   have bE4:=(show Boxed w' _ _ _ from bE3).cell
   refine ⟨.tuple #[.int .i64 0,.int .i64 0],?_,?_,?_⟩
   ·simp only [results,Tryz.results49];go_simp
   ·exact HEND.out
   ·exact ((HBW.out.setCell (p:=⟨w.heap.size + 1,0,none⟩) (by simp) _).setCell (p:=⟨w.heap.size + 1 + 1,0,none⟩) (by simp;omega) _).trans hk.below
end Go.Proofs.YtpjficjlfibibaaGreatDoor.syn
