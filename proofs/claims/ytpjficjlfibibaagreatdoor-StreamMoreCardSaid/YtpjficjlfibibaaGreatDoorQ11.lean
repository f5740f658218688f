/-
  Parts of the proof: RgtD, Str2, Str3, Str4, Str5.
-/
import Derived.Test.YtpjficjlfibibaaGreatDoorQ05
import Derived.Test.YtpjficjlfibibaaGreatDoorQ00
import Derived.Test.YtpjficjlfibibaaGreatDoorQ01
import Derived.Deep.OwnRows
import Derived.Test.YtpjficjlfibibaaGreatDoorQ10
namespace Go.Proofs.YtpjficjlfibibaaGreatDoor.syn
open Go.RowKit
set_option linter.unusedVariables false
set_option linter.unusedSimpArgs false
structure AD where
 src:Int
 ops:List (Int × Int × Int)
structure TD where
 node:Int
 per:Int
 ph:Int
 args:List AD
structure LD where
 per:Int
 ph:Int
 arg:AD
 dl:Int
structure NB where
 bud:Int
 nps:Nat
structure FD where
 ins:List (Int × Int)
 nods:List NB
 tasks:List TD
 tells:List LD
def ClkR (w:World) (b o:Nat) (c:Int × Int):Prop:=w.cell? ⟨b,o,none⟩ = some (.int .i64 c.1) ∧ w.cell? ⟨b,o + 1,none⟩ = some (.int .i64 c.2)
def OpR (w:World) (b o:Nat) (x:Int × Int × Int):Prop:=w.cell? ⟨b,o,none⟩ = some (.int .i64 x.1) ∧ w.cell? ⟨b,o + 1,none⟩ = some (.int .i64 x.2.1) ∧ w.cell? ⟨b,o + 2,none⟩ = some (.int .i64 x.2.2)
def ArgR (w:World) (b o:Nat) (a:AD):Prop:=w.cell? ⟨b,o,none⟩ = some (.int .i64 a.src) ∧ ∃ ad cap,w.cell? ⟨b,o + 1,none⟩ = some (.slice ad a.ops.length cap) ∧ Row OpR 3 w a.ops ad
def TskR (w:World) (b o:Nat) (t:TD):Prop:=w.cell? ⟨b,o,none⟩ = some (.int .i64 t.node) ∧ w.cell? ⟨b,o + 1,none⟩ = some (.int .i64 t.per) ∧ w.cell? ⟨b,o + 2,none⟩ = some (.int .i64 t.ph) ∧ ∃ ad cap,w.cell? ⟨b,o + 3,none⟩ = some (.slice ad t.args.length cap) ∧ Row ArgR 2 w t.args ad
def TelR (w:World) (b o:Nat) (t:LD):Prop:=w.cell? ⟨b,o,none⟩ = some (.int .i64 t.per) ∧ w.cell? ⟨b,o + 1,none⟩ = some (.int .i64 t.ph) ∧ w.cell? ⟨b,o + 2,none⟩ = some (.int .i64 t.arg.src) ∧ w.cell? ⟨b,o + 4,none⟩ = some (.int .i64 t.dl) ∧ ∃ ad cap,w.cell? ⟨b,o + 3,none⟩ = some (.slice ad t.arg.ops.length cap) ∧ Row OpR 3 w t.arg.ops ad
def NdR (w:World) (b o:Nat) (n:NB):Prop:=∃ (nm:ByteArray) (pa:Option Addr) (pc:Nat) (k:Int) (nm2:ByteArray) (n2 d2:Int) (ea:Option Addr) (el ec:Nat) (a2 a:Int),
 w.cell? ⟨b,o,none⟩ = some (.string nm) ∧ w.cell? ⟨b,o + 1,none⟩ = some (.slice pa n.nps pc) ∧ w.cell? ⟨b,o + 2,none⟩ = some (.int .i64 n.bud) ∧ w.cell? ⟨b,o + 3,none⟩ = some (.int .i64 k) ∧ w.cell? ⟨b,o + 4,none⟩ = some (.string nm2) ∧ w.cell? ⟨b,o + 5,none⟩ = some (.int .i64 n2) ∧
 w.cell? ⟨b,o + 6,none⟩ = some (.int .i64 d2) ∧ w.cell? ⟨b,o + 7,none⟩ = some (.slice ea el ec) ∧ w.cell? ⟨b,o + 8,none⟩ = some (.int .i64 a2) ∧ w.cell? ⟨b,o + 9,none⟩ = some (.int .i64 a)
theorem clkSta:Sta ClkR:=fun w w' b o x hb hlt h => ⟨(hb.cell (p:=⟨b,_,none⟩) hlt).trans h.1,(hb.cell (p:=⟨b,_,none⟩) hlt).trans h.2⟩
theorem opSta:Sta OpR:=fun w w' b o x hb hlt h => ⟨(hb.cell (p:=⟨b,_,none⟩) hlt).trans h.1,(hb.cell (p:=⟨b,_,none⟩) hlt).trans h.2.1,(hb.cell (p:=⟨b,_,none⟩) hlt).trans h.2.2⟩
theorem argSta:Sta ArgR:=fun w w' b o x hb hlt h => by
 obtain ⟨h0,ad,cap,h1,h2⟩:=h
 exact ⟨(hb.cell (p:=⟨b,_,none⟩) hlt).trans h0,ad,cap,(hb.cell (p:=⟨b,_,none⟩) hlt).trans h1,h2.below opSta hb⟩
theorem tskSta:Sta TskR:=fun w w' b o x hb hlt h => by
 obtain ⟨h0,h1,h2,ad,cap,h3,h4⟩:=h
 exact ⟨(hb.cell (p:=⟨b,_,none⟩) hlt).trans h0,(hb.cell (p:=⟨b,_,none⟩) hlt).trans h1,(hb.cell (p:=⟨b,_,none⟩) hlt).trans h2,ad,cap,(hb.cell (p:=⟨b,_,none⟩) hlt).trans h3,h4.below argSta hb⟩
theorem telSta:Sta TelR:=fun w w' b o x hb hlt h => by
 obtain ⟨h0,h1,h2,h3,ad,cap,h4,h5⟩:=h
 exact ⟨(hb.cell (p:=⟨b,_,none⟩) hlt).trans h0,(hb.cell (p:=⟨b,_,none⟩) hlt).trans h1,(hb.cell (p:=⟨b,_,none⟩) hlt).trans h2,(hb.cell (p:=⟨b,_,none⟩) hlt).trans h3,ad,cap,(hb.cell (p:=⟨b,_,none⟩) hlt).trans h4,h5.below opSta hb⟩
theorem ndSta:Sta NdR:=fun w w' b o x hb hlt h => by
 obtain ⟨nm,pa,pc,k,nm2,n2,d2,ea,el,ec,a2,a,h0,h1,h2,h3,h4,h5,h6,h7,h8,h9⟩:=h
 have hc:=fun o => hb.cell (p:=⟨b,o,none⟩) hlt
 exact ⟨nm,pa,pc,k,nm2,n2,d2,ea,el,ec,a2,a,(hc _).trans h0,(hc _).trans h1,(hc _).trans h2,(hc _).trans h3,(hc _).trans h4,(hc _).trans h5,(hc _).trans h6,(hc _).trans h7,(hc _).trans h8,(hc _).trans h9⟩
structure FAP (w:World) (f:FD) (ai an aT al:Option Addr):Prop where
 ins:Row ClkR 2 w f.ins ai
 nods:Row NdR 10 w f.nods an
 tasks:Row TskR 4 w f.tasks aT
 tells:Row TelR 5 w f.tells al
 lens:f.ins.length ≤ 1000 ∧ f.nods.length ≤ 1000 ∧ f.tasks.length ≤ 1000 ∧ f.tells.length ≤ 1000
 args:∀ t ∈ f.tasks,t.args.length ≤ 1000 ∧ ∀ a ∈ t.args,a.ops.length ≤ 1000 ∧ I64 a.src
 tops:∀ t ∈ f.tells,t.arg.ops.length ≤ 1000 ∧ I64 t.arg.src
theorem FAP.below {w w':World} {f:FD} {ai an aT al:Option Addr} (h:FAP w f ai an aT al) (hb:Below w.heap.size w w'):FAP w' f ai an aT al :=
 ⟨h.ins.below clkSta hb,h.nods.below ndSta hb,h.tasks.below tskSta hb,h.tells.below telSta hb,h.lens,h.args,h.tops⟩
def fv (f:FD) (ai an aT al:Option Addr) (ci cn ct cl:Nat):Value:=.agg #[.slice ai f.ins.length ci,.slice an f.nods.length cn,.slice aT f.tasks.length ct,.slice al f.tells.length cl]
def srcP (f:FD) (i:Int):Option (Int × Int):=if i < 0 then none else if i < (f.ins.length:Int) then f.ins[i.toNat]? else (f.tasks[(i - (f.ins.length:Int)).toNat]?).map (fun t => (t.per,t.ph))
def srcV (o:Option (Int × Int)):Value:=.tuple #[.agg #[.int .i64 (o.getD (0,0)).1,.int .i64 (o.getD (0,0)).2],.bool o.isSome]
theorem src_neg {f:FD} {i:Int} (h:i < 0):srcP f i = none:=if_pos h
theorem src_in {f:FD} {k:Nat} (h:k < f.ins.length):srcP f (k:Int) = some f.ins[k]:=by
 unfold srcP
 rw [if_neg oq,if_pos oq,Int.toNat_natCast,List.getElem?_eq_getElem h]
theorem src_task {f:FD} {k:Nat} (h:k < f.tasks.length):srcP f ((f.ins.length:Int) + (k:Int)) = some (f.tasks[k].per,f.tasks[k].ph):=by
 unfold srcP
 rw [if_neg oq,if_neg oq,show ((f.ins.length:Int) + (k:Int) - (f.ins.length:Int)).toNat = k by omega,List.getElem?_eq_getElem h]
 rfl
theorem src_far {f:FD} {i:Int} (h0:¬ i < 0) (h1:¬ i < (f.ins.length:Int)) (h2:¬ i - (f.ins.length:Int) < (f.tasks.length:Int)):srcP f i = none:=by
 unfold srcP
 rw [if_neg h0,if_neg h1,List.getElem?_eq_none oq]
 rfl
theorem infoI64:(Tryz.prog.info? 2).map (fun i => (i.zero,i.size,i.bytes)) = some (some (.int .i64 0),1,8):=by kernel_rfl
theorem row_opA {w:World} {l:List (Int × Int × Int)} {ad:Option Addr} (h:Row OpR 3 w l ad):index.OpA w ad l:=by
 intro k hk
 rcases h with h | ⟨b,o,e,hb,hc⟩
 ·rw [h] at hk;simp at hk
 ·obtain ⟨h1,h2,h3⟩:=hc k hk
  refine ⟨b,o,e,hb,?_⟩
  rw [show l.getD k (0,0,0) = l[k] by simp [List.getD,hk]]
  exact ⟨h1,h2,h3⟩
structure NE where
 bud:Int
 ps:List ByteArray
 e:PE
def NdE (w:World) (b o:Nat) (n:NE):Prop:=∃ (nm:ByteArray) (pa:Option Addr) (pc:Nat) (ad:Option Addr) (cap:Nat) (x:Int),
 w.cell? ⟨b,o,none⟩ = some (.string nm) ∧ w.cell? ⟨b,o + 1,none⟩ = some (.slice pa n.ps.length pc) ∧ w.cell? ⟨b,o + 2,none⟩ = some (.int .i64 n.bud) ∧ w.cell? ⟨b,o + 3,none⟩ = some (.int .i64 n.e.k) ∧ w.cell? ⟨b,o + 4,none⟩ = some (.string n.e.nm) ∧ w.cell? ⟨b,o + 5,none⟩ = some (.int .i64 n.e.n) ∧
 w.cell? ⟨b,o + 6,none⟩ = some (.int .i64 n.e.d) ∧ w.cell? ⟨b,o + 7,none⟩ = some (.slice ad n.e.args.len cap) ∧ w.cell? ⟨b,o + 8,none⟩ = some (.int .i64 n.e.a) ∧ w.cell? ⟨b,o + 9,none⟩ = some (.int .i64 x) ∧
 RowL w Value.string pa n.ps ∧ n.e.args.len ≤ cap ∧ SlA w (fun _ => True) n.e.args ad
theorem ndeSta:Sta NdE:=fun w w' b o n hb hlt h => by
 obtain ⟨nm,pa,pc,ad,cap,x,h0,h1,h2,h3,h4,h5,h6,h7,h8,h9,h10,h11,h12⟩:=h
 have hc:=fun o => hb.cell (p:=⟨b,o,none⟩) hlt
 exact ⟨nm,pa,pc,ad,cap,x,(hc _).trans h0,(hc _).trans h1,(hc _).trans h2,(hc _).trans h3,(hc _).trans h4,(hc _).trans h5,(hc _).trans h6,(hc _).trans h7,(hc _).trans h8,(hc _).trans h9,h10.keep hb.block,h11,h12.keep ⟨hb.size,fun k _ hk => hb.block k hk⟩⟩
structure NE.ok (n:NE):Prop where
 ps:n.ps.length ≤ 1000
 sz:n.e.sz ≤ 1000
 n64:n.e.n64
structure MnN (w:World) (mb:Nat) (nds:List NE):Prop where
 row:∃ a c,w.cell? ⟨mb,1,none⟩ = some (.slice a nds.length c) ∧ Row NdE 10 w nds a
 ok:∀ n ∈ nds,n.ok
def argsV (ni:Nat) (inl vals:List (List Int)) (args:List AD) (n:Int):List Int:=args.map (fun a => valV ni inl vals a.src.toNat a.ops n)
def jobV (ni:Nat) (inl vals:List (List Int)) (nd:NE) (args:List AD) (n:Int):Int:=evE (tellP nd.ps (argsV ni inl vals args n)) nd.e
structure ArgL (ni:Nat) (inl vals:List (List Int)) (args:List AD) (n:Int) (i:Nat) (L:List Int):Prop where
 le:i ≤ args.length
 len:L.length = args.length
 got:∀ j,j < i → L[j]? = (argsV ni inl vals args n)[j]?
theorem ArgL.next {ni:Nat} {inl vals:List (List Int)} {args:List AD} {n:Int} {i:Nat} {L:List Int} (h:ArgL ni inl vals args n i L) (hi:i < args.length):ArgL ni inl vals args n (i + 1) (L.set i (valV ni inl vals args[i].src.toNat args[i].ops n)):=by
 refine ⟨hi,by rw [List.length_set];exact h.len,fun j hj => ?_⟩
 by_cases hji:j = i
 ·subst hji
  have:=h.len
  rw [List.getElem?_set_self oq]
  simp [argsV,hi]
 ·rw [List.getElem?_set_ne (fun e => hji e.symm)]
  exact h.got j oq
theorem ArgL.all {ni:Nat} {inl vals:List (List Int)} {args:List AD} {n:Int} {L:List Int} (h:ArgL ni inl vals args n args.length L):L = argsV ni inl vals args n:=by
 apply List.ext_getElem?
 intro j
 by_cases hj:j < args.length
 ·exact h.got j hj
 ·have:=h.len
  rw [List.getElem?_eq_none oq,List.getElem?_eq_none (by simp [argsV];omega)]
theorem made_rep64 (z:Value) (n:Nat):madeCells #[z] n = (List.replicate n z).toArray:=by rw [← toList_madeCells_one]
set_option maxRecDepth 100000 in
set_option maxHeartbeats 8000000 in
theorem job_any {w:World} {mb ni:Nat} {inl vals:List (List Int)} (h:MnR w mb ni inl vals) (hvl:vals.length ≤ 100000) {nds:List NE} (hn:MnN w mb nds) (nd:Nat) (hnd:nd < nds.length) (c1 c2:Int) (args:List AD) (ta:Option Addr) (tc:Nat) (hal:args.length ≤ 1000) (hA:Row ArgR 2 w args ta)
  (hsrc:∀ a ∈ args,0 ≤ a.src ∧ a.src < ((ni + vals.length:Nat):Int) ∧ a.ops.length ≤ 1000) (n:Int) (h64:∀ x ∈ argsV ni inl vals args n,B64 x) :
  Calls Tryz.prog 104 #[.pointer (some ⟨mb,0,none⟩),.agg #[.int .i64 (nd:Int),.int .i64 c1,.int .i64 c2,.slice ta args.length tc],.int .i64 n] w fun y w' => y = .returned (.int .i64 (jobV ni inl vals nds[nd] args n)) ∧ Below w.heap.size w w':=by
 have HH:=hid h
 have HN:=hid hn
 have HA:=hid hA
 have HSR:=hid hsrc
 have H64:=hid h64
 obtain ⟨ev,hans⟩:∃ ev,jobV ni inl vals nds[nd] args n = ev:=⟨_,rfl⟩
 rw [hans]
 have HANS:=hid hans
 clear hans
 obtain ⟨T,hT⟩:∃ T,args.length = T:=⟨_,rfl⟩
 have HT:=hid hT
 have hmk:=fun W => run_make_row' (P:=Tryz.prog) 42 2 (.int .i64 0) 8 Tryz.underlying42 infoI64 rfl .i64 .i64 T oq oq W
 rw [hT]
 rw [hT] at hal
 clear h hn hA hsrc h64 hT
 go_enter Tryz.func104,Tryz.ntmps104
 go_wp2
 obtain ⟨W,hW⟩:∃ W,(w.alloc (.cells #[.int .i64 (nd:Int),.int .i64 c1,.int .i64 c2,.slice ta T tc] 100)).alloc (.cells (madeCells #[.int .i64 0] T) 2) = W:=⟨_,rfl⟩
 have hsW:W.heap.size = w.heap.size + 2:=by rw [← hW];simp
 have hb0:Below w.heap.size w W:=by rw [← hW];exact ((Below.refl _ _).alloc (Nat.le_refl _) _).alloc (by simp) _
 have hbx:W.heap[w.heap.size]? = some (.cells #[.int .i64 (nd:Int),.int .i64 c1,.int .i64 c2,.slice ta T tc] 100 (0,0)):=by
  rw [← hW]
  exact (Below.heap_alloc _ _ _ (by simp)).trans (heap_new w _)
 have how:W.ownsRow (w.heap.size + 1) 2 1 (.slice (some ⟨w.heap.size + 1,0,none⟩) T T) T (ints (List.replicate T 0)):=by
  have h:=heap_new (w.alloc (.cells #[.int .i64 (nd:Int),.int .i64 c1,.int .i64 c2,.slice ta T tc] 100)) (.cells (madeCells #[.int .i64 0] T) 2)
  rw [World.size_alloc,hW,made_rep64] at h
  exact ⟨by simp [ints],.inr ⟨w.heap.size + 1,T,_,rfl,Nat.le_refl _,h,Nat.le_refl _,by unfold maxLen;omega,by simp,by simp [ints]⟩⟩
 have HOW:=hid how
 have HB0:=hid hb0
 have HBX:=hid hbx
 rw [hW]
 clear hW hb0 hbx how
 go_loopw [17] (fun s17 wr => Hid (∃ i L,s17 = .int .i64 ((i:Nat):Int) ∧ ArgL ni inl vals args n i L ∧ wr.ownsRow (w.heap.size + 1) 2 1 (.slice (some ⟨w.heap.size + 1,0,none⟩) T T) T (ints L) ∧ But (fun k => k = w.heap.size + 1) W wr)) (fun s _ => T - (intOf s).toNat)
 case atStart => exact ⟨0,List.replicate T 0,rfl,⟨Nat.zero_le _,by rw [HT.out];simp,fun j hj => absurd hj (Nat.not_lt_zero _)⟩,HOW.out,But.refl _ _⟩
 case round =>
  clear HOW hmk
  obtain ⟨wo,rfl⟩:∃ wo:World,wo = wr:=⟨_,rfl⟩
  obtain ⟨i,L,rfl,hal2,hown,hbut⟩:=hrel.out
  clear hrel
  have hbw:Below w.heap.size w wo:=HB0.out.trans (hbut.below oq (fun k e => by omega))
  have hle:=hal2.le
  have hLl:=hal2.len
  have HAL:=hid hal2
  have HOW:=hid hown
  have HBT:=hid hbut
  have HBW:=hid hbw
  have hz:=hbut.size
  rw [HT.out] at hle hLl
  by_cases hi:i < T
  ·have hia:i < args.length:=by rw [HT.out];exact hi
   obtain ⟨b,o,rfl,hb,hrow⟩:=HA.out.resolve_left (fun e => by rw [e] at hia;simp at hia)
   obtain ⟨c0,oa,oc,c1',hops⟩:=argSta w wo b _ _ hbw hb (hrow i hia)
   obtain ⟨s1,s2,s3⟩:=HSR.out args[i] (List.getElem_mem hia)
   obtain ⟨src,hsr⟩:∃ src:Nat,args[i].src = (src:Int):=⟨args[i].src.toNat,by omega⟩
   have hsn:args[i].src.toNat = src:=by omega
   obtain ⟨v,hv⟩:∃ v,valV ni inl vals src args[i].ops n = v:=⟨_,rfl⟩
   have hnx:=HAL.out.next hia
   rw [hsn,hv] at hnx
   rw [hsr] at c0
   have HNX:=hid hnx
   have HOPS:=hid (row_opA hops)
   have HVA:=hid (fun W' (hb:Below wo.heap.size wo W') => mval_any (w:=W') (mb:=mb) (ni:=ni) (inl:=inl) (vals:=vals) (HH.out.keep (fun b hb2 => (hb.block b (Nat.lt_of_lt_of_le hb2 hbw.size)).trans (hbw.block b hb2))) hvl src oq args[i].ops oa oc oq (HOPS.out.below hb (Nat.le_refl _)) n)
   rw [hv] at HVA
   have i0:(0:Int) ≤ (i:Int):=by omega
   have i1:(i:Int) < (T:Int):=by omega
   obtain ⟨ol,hol⟩:∃ ol,args[i].ops.length = ol:=⟨_,rfl⟩
   rw [hol] at c1' HVA
   clear hal2 hown hbut hbw hrow hops hnx hv hsn hsr s1 s2 s3 hol
   go_wp2_with (go_at_call 21;refine (HVA.out _ ((Below.refl _ _).alloc (Nat.le_refl _) _)).mono ?_;rintro y w6 ⟨rfl,hb6⟩;have hb7:Below wo.heap.size wo w6:=((Below.refl _ _).alloc (Nat.le_refl _) _).trans (hb6.mono (by simp));have HB7:=hid hb7;have HO6:=hid (own_below HOW.out hb7);have hcell:=(World.ownsRow.cellAt HO6.out i oq).trans (ints_at (l:=L) (i:=i) oq);have hfz:=World.ownsRow.frozenAt HO6.out i;clear hb6 hb7)
   refine ⟨hid ⟨i + 1,L.set i v,by rw [show ((i + 1:Nat):Int) = (i:Int) + 1 by omega],HNX.out,?_,HBT.out.trans ((But.of_below HB7.out).trans (But.set (S:=fun k => k = w.heap.size + 1) rfl _))⟩,?_⟩
   ·have:=own_put HO6.out i (.int .i64 v) hi
    rwa [ints_set] at this
   ·show T - ((i:Int) + 1).toNat < T - (i:Int).toNat
    omega
  ·obtain rfl:i = T:=by omega
   have hi2:¬ (i:Int) < (i:Int):=by omega
   have hall:=ArgL.all (show ArgL ni inl vals args n args.length L by rw [HT.out];exact HAL.out)
   obtain ⟨an,cn,hn1,hnr⟩:=HN.out.row
   have n1:=(hbw.cell (p:=⟨mb,1,none⟩) HH.out.lt).trans hn1
   obtain ⟨bn,on,rfl,hbn,hnrow⟩:=hnr.resolve_left (fun e => by rw [e] at hnd;simp at hnd)
   obtain ⟨nm,pa,pc,ad,cap,x,m0,m1,m2,m3,m4,m5,m6,m7,m8,m9,hps,hcap,hsl⟩:=ndeSta w wo bn _ _ hbw hbn (hnrow nd hnd)
   have hok:=HN.out.ok _ (List.getElem_mem hnd)
   have hlen:L.length = i:=hLl
   have hai:RowL wo (Value.int .i64) (some ⟨w.heap.size + 1,0,none⟩) L:=.inr ⟨w.heap.size + 1,0,rfl,by omega,fun j y hy => by
    have hj:=(List.getElem?_eq_some_iff.1 hy).1
    rw [Nat.zero_add]
    exact (World.ownsRow.cellAt HOW.out j oq).trans (by simp [ints,hy])⟩
   obtain ⟨N,hN⟩:∃ N,nds[nd] = N:=⟨_,rfl⟩
   have hj:evE (tellP N.ps L) N.e = ev:=by
    have h:=HANS.out
    unfold jobV at h
    rwa [hN,← hall] at h
   rw [hN] at m1 m2 m3 m4 m5 m6 m7 m8 hps hcap hsl hok
   have HEV:=hid (eval_any (w:=wo.drew) nm N.ps pa pc N.bud x N.e ad cap L (some ⟨w.heap.size + 1,0,none⟩) i (hps.keep (fun _ _ => rfl)) (hai.keep (fun _ _ => rfl)) (by have:=hok.ps;omega) oq hcap (hsl.keep ⟨Nat.le_refl _,fun _ _ _ => rfl⟩) hok.sz hok.n64 (by rw [hall];exact H64.out))
   rw [hlen] at HEV
   have hq:=(hbut.block w.heap.size oq (fun e => by omega)).trans HBX.out
   have t0:wo.cell? ⟨w.heap.size,0,none⟩ = some (.int .i64 (nd:Int)):=by simp [World.cell?,hq]
   have k0:(0:Int) ≤ (nd:Int):=by omega
   have k1:(nd:Int) < (nds.length:Int):=by omega
   obtain ⟨p0,hp0⟩:∃ p0,on + nd * 10 = p0:=⟨_,rfl⟩
   rw [hp0] at m0 m1 m2 m3 m4 m5 m6 m7 m8 m9
   rw [hj] at HEV
   clear hal2 hown hbut hn1 hnr hnrow hps hcap hsl hok hai hj hN hall hq
   go_upto_region 7 with fail
   go_region_with (go_at_call 146;refine HEV.out.mono ?_;rintro y w2 ⟨rfl,hb2⟩;have HB2:=hid hb2;clear hb2)
   all_goals go_wp2
   all_goals go_ret
   all_goals exact ⟨rfl,hbw.drew.trans (HB2.out.mono hbw.size)⟩
def dateV (p f n:Int):Int:=if (1 ≤ p ∧ p ≤ 2000 ∧ 0 ≤ f ∧ f ≤ 2000) ∧ 0 ≤ n ∧ n ≤ 1099511627776 then f + n * p else 0
theorem date_any (p f n:Int) (w:World):Calls Tryz.prog 20 #[.agg #[.int .i64 p,.int .i64 f],.int .i64 n] w fun e w' => e = .returned (.int .i64 (dateV p f n)) ∧ Below w.heap.size w w':=by
 unfold dateV
 by_cases h:(1 ≤ p ∧ p ≤ 2000 ∧ 0 ≤ f ∧ f ≤ 2000) ∧ 0 ≤ n ∧ n ≤ 1099511627776
 ·rw [if_pos h]
  exact clock.date_yes p f n w h.1 h.2.1 h.2.2
 ·rw [if_neg h]
  exact clock.date_no p f n w h
def turnV (ni:Nat) (inl:List (List Int)) (nds:List NE) (tks:List TD) (date:Int) (vals:List (List Int)) (t:Nat):List (List Int):=match tks[t]? with
 | none => vals
 | some d => match nds[d.node.toNat]? with
  | none => vals
  | some nd => if dateV d.per d.ph ((vals.getD t []).length:Int) = date then vals.set t (vals.getD t [] ++ [jobV ni inl vals nd d.args ((vals.getD t []).length:Int)]) else vals
def stepV (ni:Nat) (inl:List (List Int)) (nds:List NE) (tks:List TD) (order:List Nat) (date:Int) (vals:List (List Int)):List (List Int):=order.foldl (turnV ni inl nds tks date) vals
def reckV (ni:Nat) (inl:List (List Int)) (nds:List NE) (tks:List TD) (order:List Nat) (n:Nat):List (List Int):=(List.range n).foldl (fun vals (date:Nat) => stepV ni inl nds tks order (date:Int) vals) (List.replicate tks.length [])
def Pre (a b:List (List Int)):Prop:=a.length = b.length ∧ ∀ t,a.getD t [] <+: b.getD t []
theorem Pre.refl (a:List (List Int)):Pre a a:=⟨rfl,fun _ => List.prefix_refl _⟩
theorem Pre.trans {a b c:List (List Int)} (h:Pre a b) (k:Pre b c):Pre a c:=⟨h.1.trans k.1,fun t => (h.2 t).trans (k.2 t)⟩
theorem pre_set (a:List (List Int)) (t:Nat) (l:List Int):Pre a (a.set t (a.getD t [] ++ l)):=by
 refine ⟨by simp,fun i => ?_⟩
 by_cases hi:i = t
 ·subst hi
  by_cases hl:i < a.length
  ·rw [show (a.set i (a.getD i [] ++ l)).getD i [] = a.getD i [] ++ l by simp [List.getD,List.getElem?_set_self hl]]
   exact List.prefix_append _ _
  ·rw [show a.getD i [] = [] by simp [List.getD,List.getElem?_eq_none (by omega:a.length ≤ i)]]
   exact List.nil_prefix
 ·rw [show (a.set t (a.getD t [] ++ l)).getD i [] = a.getD i [] by simp [List.getD,List.getElem?_set_ne (fun e => hi e.symm)]]
  exact List.prefix_refl _
theorem pre_turn (ni:Nat) (inl:List (List Int)) (nds:List NE) (tks:List TD) (date:Int) (vals:List (List Int)) (t:Nat):Pre vals (turnV ni inl nds tks date vals t):=by
 unfold turnV
 repeat' split
 all_goals first
  | exact Pre.refl _
  | exact pre_set _ _ _
theorem pre_fold {α:Type} (g:List (List Int) → α → List (List Int)) (hg:∀ v x,Pre v (g v x)):∀ (l:List α) (v:List (List Int)),Pre v (l.foldl g v)
 | [],v => Pre.refl v
 | x :: l,v => (hg v x).trans (pre_fold g hg l (g v x))
theorem pre_step (ni:Nat) (inl:List (List Int)) (nds:List NE) (tks:List TD) (order:List Nat) (date:Int) (vals:List (List Int)):Pre vals (stepV ni inl nds tks order date vals):=pre_fold _ (fun v t => pre_turn ni inl nds tks date v t) order vals
theorem pre_reck (ni:Nat) (inl:List (List Int)) (nds:List NE) (tks:List TD) (order:List Nat) (n m:Nat):Pre (reckV ni inl nds tks order n) (reckV ni inl nds tks order (n + m)):=by
 induction m with
 | zero => exact Pre.refl _
 | succ m ih =>
  refine ih.trans ?_
  unfold reckV
  rw [show n + (m + 1) = n + m + 1 by omega,List.range_succ,List.foldl_append]
  exact pre_step _ _ _ _ _ _ _
theorem reckV_len (ni:Nat) (inl:List (List Int)) (nds:List NE) (tks:List TD) (order:List Nat) (n:Nat):(reckV ni inl nds tks order n).length = tks.length:=by
 have:=(pre_reck ni inl nds tks order 0 n).1
 rw [Nat.zero_add] at this
 rw [← this]
 simp [reckV]
structure StM (wI W0 w:World) (mb vb:Nat) (ai an aT:Option Addr) (ni ci cn:Nat) (nn:Nat) (tks:List TD) (ct:Nat) (ain:Option Addr) (inl:List (List Int)) (cin cv:Nat) (vs:List Value) (vals:List (List Int)):Prop where
 old:Below wI.heap.size wI W0
 but:But (fun k => k = vb) W0 w
 lo:wI.heap.size ≤ vb ∧ wI.heap.size ≤ mb ∧ vb ≠ mb ∧ vb < W0.heap.size ∧ mb < W0.heap.size
 c0:W0.cell? ⟨mb,0,none⟩ = some (.slice ai ni ci)
 c1:W0.cell? ⟨mb,1,none⟩ = some (.slice an nn cn)
 c2:W0.cell? ⟨mb,2,none⟩ = some (.slice aT tks.length ct)
 c4:W0.cell? ⟨mb,4,none⟩ = some (.slice ain inl.length cin)
 c5:W0.cell? ⟨mb,5,none⟩ = some (.slice (some ⟨vb,0,none⟩) vals.length cv)
 row:w.heap[vb]? = some (.cells vs.toArray 42 (0,0))
 fam:Fam w W0.heap.size 2 vs (vals.map ints)
section
variable {wI W0 w:World} {mb vb ni ci cn nn ct cin cv:Nat} {ai an aT ain:Option Addr} {tks:List TD} {inl vals:List (List Int)} {vs:List Value}
theorem StM.low (h:StM wI W0 w mb vb ai an aT ni ci cn nn tks ct ain inl cin cv vs vals):Below wI.heap.size wI w:=by
 obtain ⟨l1,l2,l3,l4,l5⟩:=h.lo
 exact h.old.trans (h.but.below h.old.size (fun k e => by omega))
theorem StM.box (h:StM wI W0 w mb vb ai an aT ni ci cn nn tks ct ain inl cin cv vs vals) (o:Nat):w.cell? ⟨mb,o,none⟩ = W0.cell? ⟨mb,o,none⟩:=by
 obtain ⟨l1,l2,l3,l4,l5⟩:=h.lo
 exact World.cell?_of_block (w:=W0) (a:=⟨mb,o,none⟩) (h.but.block mb l5 (fun e => l3 e.symm))
theorem StM.lens (h:StM wI W0 w mb vb ai an aT ni ci cn nn tks ct ain inl cin cv vs vals):vs.length = vals.length:=by
 have:=h.fam.len
 simpa using this
theorem StM.val (h:StM wI W0 w mb vb ai an aT ni ci cn nn tks ct ain inl cin cv vs vals) {t:Nat} (ht:t < vals.length):∃ a c,vs[t]? = some (.slice a vals[t].length c) ∧ w.cell? ⟨vb,t,none⟩ = some (.slice a vals[t].length c) ∧ w.ownsRow W0.heap.size 2 1 (.slice a vals[t].length c) vals[t].length (ints vals[t]):=by
 have hl:=h.lens
 obtain ⟨v,hv⟩:∃ v,vs[t]? = some v:=⟨_,List.getElem?_eq_getElem oq⟩
 have ho:=h.fam.own t v (ints vals[t]) hv (by simp [ht])
 rw [ints_len] at ho
 obtain ⟨a,c,rfl⟩:=ownR_form ho
 refine ⟨a,c,hv,?_,ho⟩
 simp [World.cell?,h.row,hv]
theorem own_rowL {w:World} {base:Nat} {l:List Int} {a:Option Addr} {c:Nat} (h:w.ownsRow base 2 1 (.slice a l.length c) l.length (ints l)):RowL w (Value.int .i64) a l:=by
 have h2:=h
 rcases h.2 with ⟨_,hn⟩ | ⟨g,cap,cur,e,hb,hg,_⟩
 ·exact .inl (List.eq_nil_of_length_eq_zero hn)
 ·injection e with e1 e2 e3
  subst e1
  subst e3
  exact .inr ⟨g,0,rfl,lt_of_block hg,fun i x hx => by
   rw [Nat.zero_add]
   exact (World.ownsRow.cellAt h2 i (by have:=(List.getElem?_eq_some_iff.1 hx).1;omega)).trans (by simp [ints,hx])⟩
theorem StM.rows (h:StM wI W0 w mb vb ai an aT ni ci cn nn tks ct ain inl cin cv vs vals):RowLL w (some ⟨vb,0,none⟩) vals:=by
 refine .inr ⟨vb,0,rfl,lt_of_block h.row,fun i l hl => ?_⟩
 obtain ⟨hi,rfl⟩:=List.getElem?_eq_some_iff.1 hl
 obtain ⟨a,c,_,h2,h3⟩:=h.val hi
 rw [Nat.zero_add]
 exact ⟨a,c,h2,own_rowL h3⟩
theorem StM.mnr (h:StM wI W0 w mb vb ai an aT ni ci cn nn tks ct ain inl cin cv vs vals) (hin:RowLL wI ain inl):MnR w mb ni inl vals:=by
 obtain ⟨l1,l2,l3,l4,l5⟩:=h.lo
 exact ⟨Nat.lt_of_lt_of_le l5 h.but.size,⟨_,_,(h.box 0).trans h.c0⟩,⟨_,_,(h.box 4).trans h.c4,hin.keep h.low.block⟩,⟨_,_,(h.box 5).trans h.c5,h.rows⟩⟩
theorem StM.mnn (h:StM wI W0 w mb vb ai an aT ni ci cn nn tks ct ain inl cin cv vs vals) {nds:List NE} (hn:nds.length = nn) (hr:Row NdE 10 wI nds an) (hok:∀ n ∈ nds,n.ok):MnN w mb nds :=
 ⟨⟨_,_,(h.box 1).trans (by rw [hn];exact h.c1),hr.below ndeSta h.low⟩,hok⟩
end
theorem evE_b {T:ByteArray → Int} (hT:∀ nm,B64 (T nm)) (e:PE) (h:e.n64):B64 (evE T e):=by
 have:=evA_b hT (.cons e.k e.nm e.n e.d e.args e.a .nil) ⟨h.1,h.2,trivial⟩ 0
 rwa [evA_at T _ 0 e rfl] at this
def Bv (m:Nat) (vals:List (List Int)):Prop:=∀ l ∈ vals,l.length ≤ m ∧ ∀ x ∈ l,B64 x
theorem Bv.set {m:Nat} {vals:List (List Int)} (h:Bv m vals) (t:Nat) {v:Int} (hv:B64 v):Bv (m + 1) (vals.set t (vals.getD t [] ++ [v])):=by
 intro l hl
 have hm:∀ l' ∈ vals,l'.length ≤ m + 1 ∧ ∀ x ∈ l',B64 x:=fun l' h' => ⟨by have:=(h l' h').1;omega,(h l' h').2⟩
 rcases List.mem_or_eq_of_mem_set hl with h1 | h1
 ·exact hm l h1
 ·subst h1
  by_cases ht:t < vals.length
  ·have hg:vals.getD t [] = vals[t]:=by simp [List.getD,ht]
   have h2:=h _ (List.getElem_mem ht)
   rw [hg]
   refine ⟨by simp;exact h2.1,fun x hx => ?_⟩
   rcases List.mem_append.1 hx with hx | hx
   ·exact h2.2 x hx
   ·rw [List.mem_singleton.1 hx];exact hv
  ·rw [List.set_eq_of_length_le oq] at hl
   have hg:vals.getD t [] = []:=by simp [List.getD,List.getElem?_eq_none (by omega:vals.length ≤ t)]
   rw [hg]
   exact ⟨by simp,fun x hx => by simp at hx;rw [hx];exact hv⟩
structure TskOK (ni:Nat) (nds:List NE) (tks:List TD):Prop where
 len:tks.length ≤ 1000
 node:∀ d ∈ tks,∃ k:Nat,d.node = (k:Int) ∧ k < nds.length
 args:∀ d ∈ tks,d.args.length ≤ 1000 ∧ ∀ a ∈ d.args,0 ≤ a.src ∧ a.src < ((ni + tks.length:Nat):Int) ∧ a.ops.length ≤ 1000
def Nums (tks:List TD):Prop:=∀ d ∈ tks,∀ a ∈ d.args,∀ n,B64 (index.backP a.ops n).2.1
theorem nthV_b {l:List Int} (h:∀ x ∈ l,B64 x) (n:Int):B64 (nthV l n):=by
 have h0:B64 0:=by unfold B64;omega
 unfold nthV
 split
 ·exact h0
 ·rw [List.getD_eq_getElem?_getD]
  cases hg:l[n.toNat]? with
  | none => exact h0
  | some x => exact h x (List.mem_of_getElem? hg)
theorem valV_b {ni:Nat} {inl vals:List (List Int)} {m m':Nat} (h1:Bv m inl) (h2:Bv m' vals) (src:Nat) (ops:List (Int × Int × Int)) (n:Int) (hn:B64 (index.backP ops n).2.1):B64 (valV ni inl vals src ops n):=by
 have h0:B64 0:=by unfold B64;omega
 have hnil:∀ x ∈ ([]:List Int),B64 x:=fun x hx => by cases hx
 have key:∀ (ll:List (List Int)) (M:Nat),Bv M ll → ∀ i,∀ x ∈ ll.getD i [],B64 x:=by
  intro ll M h i
  rw [List.getD_eq_getElem?_getD]
  cases hg:ll[i]? with
  | none => exact hnil
  | some l => exact (h l (List.mem_of_getElem? hg)).2
 unfold valV
 split
 ·refine nthV_b ?_ _
  unfold lstV
  split
  ·exact key _ _ h2 _
  ·exact key _ _ h1 _
 ·split
  ·exact hn
  ·exact h0
theorem argsV_b {ni:Nat} {inl vals:List (List Int)} {m m':Nat} (h1:Bv m inl) (h2:Bv m' vals) {tks:List TD} (hn:Nums tks) {d:TD} (hd:d ∈ tks) (n:Int):∀ x ∈ argsV ni inl vals d.args n,B64 x:=by
 intro x hx
 obtain ⟨a,ha,rfl⟩:=List.mem_map.1 hx
 exact valV_b h1 h2 _ _ _ (hn d hd a ha n)
theorem jobV_b {ni:Nat} {inl vals:List (List Int)} {m m':Nat} (h1:Bv m inl) (h2:Bv m' vals) {tks:List TD} (hn:Nums tks) {d:TD} (hd:d ∈ tks) {nd:NE} (ho:nd.ok) (n:Int):B64 (jobV ni inl vals nd d.args n) :=
 evE_b (tellP_b _ (argsV_b h1 h2 hn hd n)) _ ho.n64
theorem Bv.turn {ni:Nat} {inl vals:List (List Int)} {m m':Nat} (h1:Bv m' inl) (h2:Bv m vals) {nds:List NE} {tks:List TD} (hn:Nums tks) (ho:∀ n ∈ nds,n.ok) (date:Int) (t:Nat):Bv (m + 1) (turnV ni inl nds tks date vals t):=by
 have hm:Bv (m + 1) vals:=fun l' h' => ⟨by have:=(h2 l' h').1;omega,(h2 l' h').2⟩
 unfold turnV
 cases hd:tks[t]? with
 | none => exact hm
 | some d =>
  simp only
  cases hk:nds[d.node.toNat]? with
  | none => exact hm
  | some nd =>
   simp only
   split
   ·exact h2.set t (jobV_b h1 h2 hn (List.mem_of_getElem? hd) (ho nd (List.mem_of_getElem? hk)) _)
   ·exact hm
end Go.Proofs.YtpjficjlfibibaaGreatDoor.syn
