/-
  Parts of the proof: Flt11.
-/
import Derived.Test.YtpjficjlfibibaaGreatDoorQ26
import Derived.Test.YtpjficjlfibibaaGreatDoorQ05
namespace Go.Proofs.YtpjficjlfibibaaGreatDoor.syn
open Go.RowKit Go.Shelf
set_option linter.unusedVariables false
set_option linter.unusedSimpArgs false
theorem least_lt {P:Nat → Prop} {N M:Nat} (hN:N = M + 1) (h:P M):leastN P < N:=by
 have:=(leastN_spec ⟨M,h⟩).2 M h
 omega
theorem reverse_all {w:World} {base:Nat} {v:Value} {ops:List Op3} (h:w.ownsRow base 199 3 v ops.length (opsV ops)) (hl:ops.length ≤ 1000) :
  Calls Tryz.prog 145 #[v] w fun e w' => e = .returned (.tuple #[]) ∧ w'.ownsRow base 199 3 v ops.length (opsV ops.reverse) ∧ w.grownBy w' v.ownBlock:=by
 cases ops with
 | nil =>
  obtain ⟨ad,cap,rfl⟩:∃ ad cap,v = .slice ad 0 cap:=by
   rcases h.2 with ⟨rfl,_⟩ | ⟨g,cap,cur,rfl,_⟩
   ·exact ⟨none,0,rfl⟩
   ·exact ⟨_,cap,rfl⟩
  refine reverse_none.mono ?_
  rintro e w' ⟨rfl,rfl⟩
  exact ⟨rfl,h,World.grownBy.refl _ _⟩
 | cons o l => exact reverse_any h hl (by simp)
theorem infoApiOp:(Tryz.prog.info? 199).map (fun i => (i.zero,i.size,i.bytes)) = some (some (.agg #[.int .i64 0,.int .i64 0,.int .i64 0]),3,24):=by kernel_rfl
theorem still_lookS {T K E:TypeId} {z:Value} (M:StrMap T K E z) (w:World) {ops:Array Oper} {rest:List Oper} {o:Oper} {a:Act} {Q:Act → Prop}
  (hg:o.guard = none) (m x:Operand) (c:Bool) (hop:o.op = Op.lookup T m x c) (mb:Nat) (L:List (ByteArray × Value)) (k:ByteArray)
  (hm:a.eval m = .map (some mb)) (hx:a.eval x = .string k) (h:MapS w mb L) (u:Value) (hu:(if c then .tuple #[(getS k L).getD z,.bool (getS k L).isSome] else (getS k L).getD z) = u)
  (hK:wpStill Tryz.prog ops w Q rest (a.put o.dst u)):wpStill Tryz.prog ops w Q (o :: rest) a:=by
 refine wpStill_step fun K' hK' => ?_
 have hrun:=map_lookS M h k c
 have e:(execOp a.eval o).run Tryz.prog w = .ok (.value u) w:=by
  rw [← hu];simp [execOp,hop,hm,hx,hrun]
 have hw:Region.wanted o (yielded ops a.tmps) = true:=by simp [Region.wanted,hg]
 rw [if_pos hw]
 unfold Oper.still
 rw [e]
 exact ⟨rfl,hK' _ hK⟩
def spObj (e:PE) (ad:Option Addr) (cap:Nat) (way:ByteArray):Obj:=.cells #[.int .i64 e.k,.string e.nm,.int .i64 e.n,.int .i64 e.d,.slice ad e.args.len cap,.int .i64 e.a,.string way] 182 (0,0)
structure AoAt (W0 w:World) (flows:List FL) (nI:Nat) (xIx fIx iIx:IE) (res:Nat × List Op3) (N:Nat) (wr:World) (e:PE) (way:ByteArray) (ad:Option Addr) (cap:Nat) (ops:List Op3) (v:Value):Prop where
 go:argGo flows nI xIx fIx iIx N e way ops = some res
 sp:SpOK W0 e ad cap way
 b0:wr.heap[w.heap.size]? = some (spObj e ad cap way)
 b1:wr.heap[w.heap.size + 1]? = some (.cells #[.int .i64 0,.slice none 0 0] 73 (0,0))
 b2:wr.heap[w.heap.size + 1 + 1]? = some (.cells #[.int .i64 0,v] 73 (0,0))
 own:wr.ownsRow (w.heap.size + 3) 199 3 v ops.length (opsV ops)
 low:Below w.heap.size w wr
 size:w.heap.size + 3 ≤ wr.heap.size
 few:ops.length ≤ 21
def AoN (W0 w:World) (flows:List FL) (nI:Nat) (xIx fIx iIx:IE) (res:Nat × List Op3) (wr:World) (N:Nat):Prop:=∃ e way ad cap ops v,AoAt W0 w flows nI xIx fIx iIx res N wr e way ad cap ops v
theorem set2a {w:World} {b:Nat} {v0 v1:Value} {t:TypeId} (h:w.heap[b]? = some (.cells #[v0,v1] t (0,0))) (u:Value):(w.setCell ⟨b,0,none⟩ u).heap[b]? = some (.cells #[u,v1] t (0,0)):=heap_setCell_same w b 0 _ t u h
structure RevF (w wx:World) (sv:Value) (v:Value) (ops:List Op3) (wv:World):Prop where
 own:wv.ownsRow (w.heap.size + 3) 199 3 v ops.length (opsV ops.reverse)
 b1:wv.heap[w.heap.size + 1]? = some (.cells #[.int .i64 0,.slice none 0 0] 73 (0,0))
 b2:wv.heap[w.heap.size + 1 + 1]? = some (.cells #[sv,v] 73 (0,0))
 low:Below w.heap.size w wv
 size:w.heap.size + 3 ≤ wv.heap.size
theorem revF {w wx wv:World} {sv v:Value} {ops:List Op3} (ho:wx.ownsRow (w.heap.size + 3) 199 3 v ops.length (opsV ops)) (hb1:wx.heap[w.heap.size + 1]? = some (.cells #[.int .i64 0,.slice none 0 0] 73 (0,0))) (hb:wx.heap[w.heap.size + 1 + 1]? = some (.cells #[sv,v] 73 (0,0))) (hlow:Below w.heap.size w wx) (hsz:w.heap.size + 3 ≤ wx.heap.size)
  (h1:wv.ownsRow (w.heap.size + 3) 199 3 v ops.length (opsV ops.reverse)) (hg:wx.grownBy wv v.ownBlock):RevF w wx sv v ops wv:=by
 have hk:∀ k,k < w.heap.size + 3 → wv.heap[k]? = wx.heap[k]?:=fun k hk => hg.block k oq (fun e => by have:=own_ge' ho k e.symm;omega)
 exact ⟨h1,(hk _ oq).trans hb1,(hk _ oq).trans hb,hlow.trans ⟨hg.os,hg.tape,hg.output,hg.size,fun k hk' => hk k oq⟩,Nat.le_trans hsz hg.size⟩
theorem set7 {w:World} {b:Nat} {u0 u1 u2 u3 u4 u5 u6:Value} {t:TypeId} (h:w.heap[b]? = some (.cells #[u0,u1,u2,u3,u4,u5,u6] t (0,0))) (v0 v1 v2 v3 v4 v5 v6:Value) :
  (((((((w.setCell ⟨b,0,none⟩ v0).setCell ⟨b,1,none⟩ v1).setCell ⟨b,2,none⟩ v2).setCell ⟨b,3,none⟩ v3).setCell ⟨b,4,none⟩ v4).setCell ⟨b,5,none⟩ v5).setCell ⟨b,6,none⟩ v6).heap[b]? = some (.cells #[v0,v1,v2,v3,v4,v5,v6] t (0,0)):=by
 have h0:=heap_setCell_same _ b 0 _ t v0 h
 have h1:=heap_setCell_same _ b 1 _ t v1 h0
 have h2:=heap_setCell_same _ b 2 _ t v2 h1
 have h3:=heap_setCell_same _ b 3 _ t v3 h2
 have h4:=heap_setCell_same _ b 4 _ t v4 h3
 have h5:=heap_setCell_same _ b 5 _ t v5 h4
 have h6:=heap_setCell_same _ b 6 _ t v6 h5
 simpa only [sA,sB,sC] using h6
theorem upon7 (w:World) (b:Nat) (v0 v1 v2 v3 v4 v5 v6:Value) :
  Upon b w (((((((w.setCell ⟨b,0,none⟩ v0).setCell ⟨b,1,none⟩ v1).setCell ⟨b,2,none⟩ v2).setCell ⟨b,3,none⟩ v3).setCell ⟨b,4,none⟩ v4).setCell ⟨b,5,none⟩ v5).setCell ⟨b,6,none⟩ v6) :=
 (((((((Upon.refl b w).setAt (Or.inl rfl) _).setAt (Or.inl rfl) _).setAt (Or.inl rfl) _).setAt (Or.inl rfl) _).setAt (Or.inl rfl) _).setAt (Or.inl rfl) _).setAt (Or.inl rfl) _
theorem AoAt.next {W0 w:World} {flows:List FL} {nI:Nat} {xIx fIx iIx:IE} {res:Nat × List Op3} {N:Nat} {wr:World} {e:PE} {way:ByteArray} {ad:Option Addr} {cap:Nat} {ops:List Op3} {v:Value} (h:AoAt W0 w flows nI xIx fIx iIx res N wr e way ad cap ops v)
  {w5 W':World} (hb:Below wr.heap.size wr w5) (hu:Upon w.heap.size w5 W') {M:Nat} {e':PE} {way':ByteArray} {ad':Option Addr} {cap':Nat} (hgo:argGo flows nI xIx fIx iIx M e' way' ops = some res) (hsp:SpOK W0 e' ad' cap' way') (hb0:W'.heap[w.heap.size]? = some (spObj e' ad' cap' way')) :
  AoAt W0 w flows nI xIx fIx iIx res M W' e' way' ad' cap' ops v:=by
 have hs:=h.size
 have hs5:=hb.size
 exact ⟨hgo,hsp,hb0,(hu.block _ oq oq).trans ((hb.block _ oq).trans h.b1),(hu.block _ oq oq).trans ((hb.block _ oq).trans h.b2),own_upon (own_below h.own hb) oq hu,(h.low.trans (hb.mono oq)).trans (hu.below oq (Nat.le_refl _)),by have:=hu.size;omega,h.few⟩
theorem AoAt.more {W0 w:World} {flows:List FL} {nI:Nat} {xIx fIx iIx:IE} {res:Nat × List Op3} {N:Nat} {wr:World} {e:PE} {way:ByteArray} {ad:Option Addr} {cap:Nat} {ops:List Op3} {v:Value} (h:AoAt W0 w flows nI xIx fIx iIx res N wr e way ad cap ops v)
  {w3 w4:World} (hb:Below wr.heap.size wr w3) {ob:Obj} {v':Value} {o:Op3} (hown:w4.ownsRow (w.heap.size + 3) 199 3 v' (ops.length + 1) (opsV ops ++ [.int .i64 o.1,.int .i64 o.2.1,.int .i64 o.2.2])) (hg:(w3.alloc ob).grownBy w4 v.ownBlock) (hfew:ops.length ≤ 20) {M:Nat} {res':Nat × List Op3} :
  (∀ k,k < w.heap.size + 3 → w4.heap[k]? = wr.heap[k]?) ∧ (Below w.heap.size w (w4.setCell ⟨w.heap.size + 1 + 1,1,none⟩ v') ∧ w.heap.size + 3 ≤ (w4.setCell ⟨w.heap.size + 1 + 1,1,none⟩ v').heap.size) ∧ (∀ M e' way' ad' cap',argGo flows nI xIx fIx iIx M e' way' (ops ++ [o]) = some res → SpOK W0 e' ad' cap' way' → ∀ w5 W',Below (w4.setCell ⟨w.heap.size + 1 + 1,1,none⟩ v').heap.size (w4.setCell ⟨w.heap.size + 1 + 1,1,none⟩ v') w5 → Upon w.heap.size w5 W' → W'.heap[w.heap.size]? = some (spObj e' ad' cap' way') → AoAt W0 w flows nI xIx fIx iIx res M W' e' way' ad' cap' (ops ++ [o]) v'):=by
 have hs:=h.size
 have hs3:=hb.size
 have hg4:∀ k,k < w.heap.size + 3 → w4.heap[k]? = wr.heap[k]?:=fun k hk =>
  (hg.block k (by simp;omega) (fun e => by have:=own_ge' h.own k e.symm;omega)).trans ((Below.heap_alloc _ _ _ oq).trans (hb.block k oq))
 have hs4:w.heap.size + 3 ≤ w4.heap.size:=Nat.le_trans (by simp;omega) hg.size
 have hlow4:Below w.heap.size w w4:=h.low.trans ⟨hg.os.trans hb.os,hg.tape.trans hb.tape,hg.output.trans hb.output,Nat.le_trans hs3 (Nat.le_trans (by simp) hg.size),fun k hk => hg4 k oq⟩
 have hs4':w.heap.size + 3 ≤ (w4.setCell ⟨w.heap.size + 1 + 1,1,none⟩ v').heap.size:=Nat.le_trans hs4 ((Below.refl 0 w4).setCell (p:=⟨w.heap.size + 1 + 1,1,none⟩) (Nat.zero_le _) _).size
 refine ⟨hg4,⟨hlow4.setCell (p:=⟨w.heap.size + 1 + 1,1,none⟩) (Nat.le_add_right _ 2) _,hs4'⟩,fun M e' way' ad' cap' hgo hsp w5 W' hb5 hu hb0 => ?_⟩
 have hs5:=hb5.size
 have hb1:(w4.setCell ⟨w.heap.size + 1 + 1,1,none⟩ v').heap[w.heap.size + 1]? = some (.cells #[.int .i64 0,.slice none 0 0] 73 (0,0)):=(Below.heap_setCell _ _ _ _ (by simp)).trans ((hg4 _ oq).trans h.b1)
 have hb2:(w4.setCell ⟨w.heap.size + 1 + 1,1,none⟩ v').heap[w.heap.size + 1 + 1]? = some (.cells #[.int .i64 0,v'] 73 (0,0)):=heap_setCell_same _ _ _ _ _ _ ((hg4 _ oq).trans h.b2)
 have hown':(w4.setCell ⟨w.heap.size + 1 + 1,1,none⟩ v').ownsRow (w.heap.size + 3) 199 3 v' (ops ++ [o]).length (opsV (ops ++ [o])):=by
  rw [opsV_app,List.length_append]
  exact own_set hown oq _
 exact ⟨hgo,hsp,hb0,(hu.block _ oq oq).trans ((hb5.block _ oq).trans hb1),(hu.block _ oq oq).trans ((hb5.block _ oq).trans hb2),own_upon (own_below hown' hb5) oq hu,((hlow4.setCell (p:=⟨w.heap.size + 1 + 1,1,none⟩) (Nat.le_add_right _ 2) _).trans (hb5.mono oq)).trans (hu.below oq (Nat.le_refl _)),by have:=hu.size;omega,by simp;omega⟩
set_option maxRecDepth 100000 in
set_option maxHeartbeats 4000000 in
theorem argOf_any {W0 w:World} (p:PG) (an ai af ao:Option Addr) (cn ci cf co:Nat) (hp:AP W0 p an ai af ao cn ci cf co) (hok:PgOK p) (mc mi mf mn mx m:Nat) (Lc Li Lf Ln Lx:List (ByteArray × Value)) (hM:Mkr W0 p an ai af ao cn ci cf co mc mi mf mn mx m Lc Li Lf Ln Lx w)
  (xIx fIx iIx:IE) (hX:IxIs Lx xIx) (hF:IxIs Lf fIx) (hI:IxIs Li iIx) (hxb:∀ k j,xIx k = some j → j ≤ 1000) (N:Nat) (e:PE) (way:ByteArray) (ad:Option Addr) (cap:Nat) (hs:SpOK W0 e ad cap way) (s:Nat) (ops:List Op3) (hgo:argGo p.flows p.ins.length xIx fIx iIx N e way [] = some (s,ops)) :
  Calls Tryz.prog 103 #[.pointer (some ⟨m,0,none⟩),spv e ad cap way] w fun x w' => (∃ v,x = .returned (.agg #[.int .i64 (s:Int),v]) ∧ w'.ownsRow w.heap.size 199 3 v ops.length (opsV ops.reverse)) ∧ Below w.heap.size w w':=by
 have hlm:=hM.lt
 have hw0:=hM.low.size
 have hll:=hok.lens
 have HM:=hid hM
 have HP:=hid hp
 have HOK:=hid hok
 have HX:=hid hX
 have HF:=hid hF
 have HI:=hid hI
 have HXB:=hid hxb
 have HS:=hid hs
 have HG:=hid hgo
 clear hM hp hok hX hF hI hxb hs hgo
 unfold spv
 go_enter Tryz.func103,Tryz.ntmps103
 go_wp2
 obtain ⟨W3,hW3⟩:∃ W3,((w.alloc (.cells #[.int .i64 e.k,.string e.nm,.int .i64 e.n,.int .i64 e.d,.slice ad e.args.len cap,.int .i64 e.a,.string way] 182)).alloc (.cells #[.int .i64 0,.slice none 0 0] 73)).alloc (.cells #[.int .i64 0,.slice none 0 0] 73) = W3:=⟨_,rfl⟩
 rw [hW3]
 have HN3:=hid (show AoN W0 w p.flows p.ins.length xIx fIx iIx (s,ops) W3 N from by
  refine ⟨e,way,ad,cap,[],.slice none 0 0,HG.out,HS.out,?_,?_,?_,World.ownsRow_nil _ _ _ _,?_,?_,by simp⟩
  ·rw [← hW3];exact (Below.heap_alloc _ _ _ (by simp;omega)).trans ((Below.heap_alloc _ _ _ (by simp)).trans (heap_new w _))
  ·rw [← hW3];exact (Below.heap_alloc _ _ _ (by simp)).trans (by simpa using heap_new (w.alloc (.cells #[.int .i64 e.k,.string e.nm,.int .i64 e.n,.int .i64 e.d,.slice ad e.args.len cap,.int .i64 e.a,.string way] 182)) (.cells #[.int .i64 0,.slice none 0 0] 73))
  ·rw [← hW3];simpa using heap_new ((w.alloc (.cells #[.int .i64 e.k,.string e.nm,.int .i64 e.n,.int .i64 e.d,.slice ad e.args.len cap,.int .i64 e.a,.string way] 182)).alloc (.cells #[.int .i64 0,.slice none 0 0] 73)) (.cells #[.int .i64 0,.slice none 0 0] 73)
  ·rw [← hW3];exact bq
  ·rw [← hW3];simp)
 clear hW3 HS HG
 go_loopw [] (fun wr => Hid (∃ N,AoN W0 w p.flows p.ins.length xIx fIx iIx (s,ops) wr N)) (fun wr => leastN (AoN W0 w p.flows p.ins.length xIx fIx iIx (s,ops) wr))
 case atStart => exact ⟨_,HN3.out⟩
 case round =>
  obtain ⟨⟨e2,way2,ad2,cap2,ops2,v2,hA⟩,hmin⟩:=leastN_spec hrel.out
  clear hrel HN3
  obtain ⟨N2,hN2⟩:∃ N2,leastN (AoN W0 w p.flows p.ins.length xIx fIx iIx (s,ops) wr) = N2:=⟨_,rfl⟩
  rw [hN2] at hA hmin
  obtain ⟨ad3,cap3,rfl⟩:=ownR_form hA.own
  have HA:=hid hA
  obtain ⟨⟨c0,c1⟩,cfz⟩:=cells2 hA.b2
  have hfew:=hA.few
  have hsz:=hA.size
  have HN2:=hid hN2
  clear hA hmin hN2
  obtain ⟨i0,hi0,hi1,hi2,hi3⟩:=info_parts infoApiOp
  have HIO:=hid (And.intro hi0 (And.intro hi1 (And.intro hi2 hi3)))
  clear hi0 hi1 hi2 hi3
  by_cases h20:20 < ops2.length
  ·have hle:¬ (ops2.length:Int) ≤ 20:=by omega
   obtain ⟨M,hM⟩:∃ M,N2 = M + 1:=by
    cases N2 with
    | zero => have:=HA.out.go;rw [argGo] at this;cases this
    | succ M => exact ⟨M,rfl⟩
   have hgo:=HA.out.go
   rw [hM,argGo,if_pos h20] at hgo
   injection hgo with hgo
   have HGO:=hid hgo
   clear hgo
   go_wp2_with (go_at_call 145;refine (reverse_all (HA.out.own) oq).mono ?_;rintro x wv ⟨rfl,hov,hgv⟩;have hRV:=revF (HA.out.own) (HA.out.b1) (HA.out.b2) (HA.out.low) (HA.out.size) hov hgv;obtain ⟨⟨d0,d1⟩,df⟩:=cells2 hRV.b2;obtain ⟨⟨q0,q1⟩,qf⟩:=cells2 hRV.b1;have HRV:=hid hRV;have hsv:=hRV.size;clear hov hgv hRV)
   (refine bodyPost_ret (v:=.agg #[.int .i64 0,.slice ad3 ops2.length cap3]) ?_ rfl ⟨⟨.slice ad3 ops2.length cap3,?_,?_⟩,?_⟩;(focus (simp only [results,Tryz.results103];go_simp));(focus (have hgo:=HGO.out;injection hgo with h1 h2;subst h1;subst h2;first | done | rfl));(focus (have hgo:=HGO.out;injection hgo with h1 h2;subst h1;subst h2;exact own_mono (own_set (own_set HRV.out.own oq _) oq _) oq));exact ((HRV.out.low.setCell (p:=⟨w.heap.size + 1,0,none⟩) (by show w.heap.size ≤ w.heap.size + 1;omega) _).setCell (p:=⟨w.heap.size + 1,1,none⟩) (by show w.heap.size ≤ w.heap.size + 1;omega) _))
  ·have hle:(ops2.length:Int) ≤ 20:=by omega
   obtain ⟨⟨x0,x1,x2,x3,x4,x5,x6⟩,xf⟩:=cells7s (show wr.heap[w.heap.size]? = some (.cells #[.int .i64 e2.k,.string e2.nm,.int .i64 e2.n,.int .i64 e2.d,.slice ad2 e2.args.len cap2,.int .i64 e2.a,.string way2] 182 (0,0)) from HA.out.b0)
   have hmr:=HM.out.keep (B:=w.heap.size) hlm HA.out.low
   have HMR:=hid hmr
   obtain ⟨⟨z0,z1,z2,z3,z4,z5,z6,z7,z8⟩,zf⟩:=cells9m (show wr.heap[m]? = _ from hmr.box)
   clear hmr
   obtain ⟨M,hM⟩:∃ M,N2 = M + 1:=by
    cases N2 with
    | zero => have:=HA.out.go;rw [argGo] at this;cases this
    | succ M => exact ⟨M,rfl⟩
   have hgo:=HA.out.go
   rw [hM,argGo,if_neg h20] at hgo
   have HMM:=hid hM
   clear hM
   by_cases hk2:e2.k = 2
   ·rw [if_pos hk2] at hgo
    injection hgo with hgo
    have HGO:=hid hgo
    clear hgo
    rw [hk2] at x0
    go_wp2
    refine wp_region_still_tail 14 (by kernel_rfl) (by kernel_rfl) ?_
    simp only [List.take_succ_cons,List.take_zero,List.drop_succ_cons,List.drop_zero]
    repeat still_step
    refine still_lookS waysMap _ rfl _ _ false rfl mx Lx way2 rfl rfl HMR.out.x (.int .i64 (((xIx way2).getD 0:Nat):Int)) ?_ ?_
    ·rw [HX.out way2];cases xIx way2 <;> rfl
    have hxx:(xIx way2).getD 0 ≤ 1000:=by
     cases hc:xIx way2 with
     | none => simp
     | some j => exact HXB.out way2 j hc
    have hi64:IntKind.i64.wrap ((p.ins.length:Int) + (((xIx way2).getD 0:Nat):Int)) = ((p.ins.length + (xIx way2).getD 0:Nat):Int):=by rw [IntWalk.i64_in _ oq];omega
    obtain ⟨sx,hsx⟩:∃ sx,p.ins.length + (xIx way2).getD 0 = sx:=⟨_,rfl⟩
    obtain ⟨nx,hnx⟩:∃ nx,(xIx way2).getD 0 = nx:=⟨_,rfl⟩
    rw [hsx] at HGO hi64
    rw [hnx] at hi64 ⊢
    clear hnx hsx hxx
    repeat still_step
    try refine wpStill_nil ?_
    change wpList _ _ _ _ _ wr.drew
    go_wp2_with (go_at_call 145;refine (reverse_all ((own_set HA.out.own oq _).drew) oq).mono ?_;rintro x wv ⟨rfl,hov,hgv⟩;have hRV:=revF ((own_set HA.out.own oq _).drew) ((Below.heap_setCell _ _ _ _ (by simp)).trans HA.out.b1) (set2a HA.out.b2 _) ((HA.out.low.setCell (p:=⟨w.heap.size + 1 + 1,0,none⟩) (Nat.le_add_right _ 2) _).drew) (Nat.le_trans HA.out.size ((Below.refl 0 wr).setCell (p:=⟨w.heap.size + 1 + 1,0,none⟩) (Nat.zero_le _) _).size) hov hgv;obtain ⟨⟨d0,d1⟩,df⟩:=cells2 hRV.b2;obtain ⟨⟨q0,q1⟩,qf⟩:=cells2 hRV.b1;have HRV:=hid hRV;have hsv:=hRV.size;clear hov hgv hRV)
    (refine bodyPost_ret (v:=.agg #[.int .i64 (sx:Int),.slice ad3 ops2.length cap3]) ?_ rfl ⟨⟨.slice ad3 ops2.length cap3,?_,?_⟩,?_⟩;(focus (simp only [results,Tryz.results103];go_simp));(focus (have hgo:=HGO.out;injection hgo with h1 h2;subst h1;subst h2;first | done | rfl));(focus (have hgo:=HGO.out;injection hgo with h1 h2;subst h1;subst h2;exact own_mono (own_set (own_set HRV.out.own oq _) oq _) oq));exact ((HRV.out.low.setCell (p:=⟨w.heap.size + 1,0,none⟩) (by show w.heap.size ≤ w.heap.size + 1;omega) _).setCell (p:=⟨w.heap.size + 1,1,none⟩) (by show w.heap.size ≤ w.heap.size + 1;omega) _))
   ·rw [if_neg hk2] at hgo
    have hk2':(e2.k == 2) = false:=beq_eq_false_iff_ne.2 hk2
    by_cases hk1:e2.k = 1
    ·rw [if_neg (show ¬ e2.k ≠ 1 from fun h => h hk1)] at hgo
     rw [hk1] at x0
     cases hf:fIx e2.nm with
     | none =>
      rw [hf] at hgo
      injection hgo with hgo
      have HGO:=hid hgo
      have HFN:=hid hf
      clear hgo hf hk2 hk2'
      go_wp2
      refine wp_region_still_lit (by kernel_rfl) (by kernel_rfl) ?_
      repeat still_step
      refine still_lookS fintsMap _ rfl _ _ true rfl mf Lf e2.nm rfl rfl HMR.out.f (.tuple #[.int .i64 0,.bool false]) ?_ ?_
      ·rw [HF.out e2.nm,HFN.out];rfl
      repeat still_step
      refine wpStill_nil ?_
      generalize hW2:({ wr with drawn:=wr.drawn + 1 }:World) = W2
      have hA2:AoAt W0 w p.flows p.ins.length xIx fIx iIx (s,ops) N2 W2 e2 way2 ad2 cap2 ops2 (.slice ad3 ops2.length cap3):=by
       rw [← hW2];exact ⟨HA.out.go,HA.out.sp,HA.out.b0,HA.out.b1,HA.out.b2,HA.out.own,⟨HA.out.low.os,HA.out.low.tape,HA.out.low.output,HA.out.low.size,HA.out.low.block⟩,HA.out.size,HA.out.few⟩
      have hm2:=HM.out.keep (B:=w.heap.size) hlm hA2.low
      clear hW2 c0 c1 cfz x0 x1 x2 x3 x4 x5 x6 xf z0 z1 z2 z3 z4 z5 z6 z7 z8 zf
      obtain ⟨⟨c0,c1⟩,cfz⟩:=cells2 hA2.b2
      obtain ⟨⟨x0,x1,x2,x3,x4,x5,x6⟩,xf⟩:=cells7s (show W2.heap[w.heap.size]? = some (.cells #[.int .i64 e2.k,.string e2.nm,.int .i64 e2.n,.int .i64 e2.d,.slice ad2 e2.args.len cap2,.int .i64 e2.a,.string way2] 182 (0,0)) from hA2.b0)
      obtain ⟨⟨z0,z1,z2,z3,z4,z5,z6,z7,z8⟩,zf⟩:=cells9m (show W2.heap[m]? = _ from hm2.box)
      have HA2:=hid hA2
      have HM2:=hid hm2
      clear hA2 hm2
      go_wp2
      refine wp_region_still_tail 8 (by kernel_rfl) (by kernel_rfl) ?_
      simp only [List.take_succ_cons,List.take_zero,List.drop_succ_cons,List.drop_zero]
      repeat still_step
      refine still_lookS fintsMap _ rfl _ _ false rfl mi Li e2.nm rfl rfl HM2.out.i (.int .i64 (((iIx e2.nm).getD 0:Nat):Int)) ?_ ?_
      ·rw [HI.out e2.nm];cases iIx e2.nm <;> rfl
      obtain ⟨sx,hsx⟩:∃ sx,(iIx e2.nm).getD 0 = sx:=⟨_,rfl⟩
      rw [hsx] at HGO ⊢
      clear hsx
      repeat still_step
      try refine wpStill_nil ?_
      change wpList _ _ _ _ _ W2.drew
      go_wp2_with (go_at_call 145;refine (reverse_all ((own_set HA2.out.own oq _).drew) oq).mono ?_;rintro x wv ⟨rfl,hov,hgv⟩;have hRV:=revF ((own_set HA2.out.own oq _).drew) ((Below.heap_setCell _ _ _ _ (by simp)).trans HA2.out.b1) (set2a HA2.out.b2 _) ((HA2.out.low.setCell (p:=⟨w.heap.size + 1 + 1,0,none⟩) (Nat.le_add_right _ 2) _).drew) (Nat.le_trans HA2.out.size ((Below.refl 0 W2).setCell (p:=⟨w.heap.size + 1 + 1,0,none⟩) (Nat.zero_le _) _).size) hov hgv;obtain ⟨⟨d0,d1⟩,df⟩:=cells2 hRV.b2;obtain ⟨⟨q0,q1⟩,qf⟩:=cells2 hRV.b1;have HRV:=hid hRV;have hsv:=hRV.size;clear hov hgv hRV)
      (refine bodyPost_ret (v:=.agg #[.int .i64 (sx:Int),.slice ad3 ops2.length cap3]) ?_ rfl ⟨⟨.slice ad3 ops2.length cap3,?_,?_⟩,?_⟩;(focus (simp only [results,Tryz.results103];go_simp));(focus (have hgo:=HGO.out;injection hgo with h1 h2;subst h1;subst h2;first | done | rfl));(focus (have hgo:=HGO.out;injection hgo with h1 h2;subst h1;subst h2;exact own_mono (own_set (own_set HRV.out.own oq _) oq _) oq));exact ((HRV.out.low.setCell (p:=⟨w.heap.size + 1,0,none⟩) (by show w.heap.size ≤ w.heap.size + 1;omega) _).setCell (p:=⟨w.heap.size + 1,1,none⟩) (by show w.heap.size ≤ w.heap.size + 1;omega) _))
     | some j =>
      rw [hf] at hgo
      simp only at hgo
      cases hfl:p.flows[j]? with
      | none => rw [hfl] at hgo;cases hgo
      | some f =>
       rw [hfl] at hgo
       simp only at hgo
       obtain ⟨hjl,hfj⟩:=List.getElem?_eq_some_iff.1 hfl
       have HGO:=hid hgo
       have HFN:=hid hf
       obtain ⟨hfl1,hfl2⟩:=HOK.out.flows _ (List.getElem_mem hjl)
       have HFS:=hid (fun (w':World) (hb:Below W0.heap.size W0 w') => flowSpot_any hb p an ai af ao cn ci cf co HP.out j hjl oq)
       rw [hfj] at HFS hfl1 hfl2
       obtain ⟨fnm,⟨k5,nm5,n5,d5,args5,a5⟩,fa5⟩:=f
       unfold pv spv PE.sz at *
       simp only at HFS hfl1
       have HG5:=hid hfl2
       have hdg:=dg_size (i:=j) oq
       clear hgo hf hk2 hk2' hfl hfj hfl2
       go_wp2
       refine wp_region_still_lit (by kernel_rfl) (by kernel_rfl) ?_
       repeat still_step
       refine still_lookS fintsMap _ rfl _ _ true rfl mf Lf e2.nm rfl rfl HMR.out.f (.tuple #[.int .i64 (j:Int),.bool true]) ?_ ?_
       ·rw [HF.out e2.nm,HFN.out];rfl
       repeat still_step
       refine wpStill_nil ?_
       go_wp2_with (go_at_call 94;refine (HFS.out wr.drew ((HM.out.low.trans (HA.out.low.mono hw0)).drew)).mono ?_;rintro x w5 ⟨⟨ad5,cap5,rfl,hae5⟩,hb5⟩;have hs5:=hb5.size;have hy5:=(hb5.block w.heap.size (by show w.heap.size < wr.heap.size;omega)).trans HA.out.b0;obtain ⟨⟨y0,y1,y2,y3,y4,y5,y6⟩,yf⟩:=cells7s hy5;have HB5:=hid (show Below wr.heap.size wr w5 from ⟨hb5.os,hb5.tape,hb5.output,hb5.size,hb5.block⟩);have HY5:=hid hy5;have HAE5:=hid hae5;clear hb5 hy5 hae5)
       have hX:=HA.out.next HB5.out (upon7 w5 w.heap.size (.int .i64 k5) (.string nm5) (.int .i64 n5) (.int .i64 d5) (.slice ad5 args5.len cap5) (.int .i64 a5) (.string (dg j))) HGO.out (show SpOK W0 ⟨k5,nm5,n5,d5,args5,a5⟩ ad5 cap5 (dg j) from ⟨HAE5.out,HG5.out,by show (dg j).size + 3 * args5.sz ≤ 500;omega,by show args5.sz < 100;omega⟩) (set7 HY5.out _ _ _ _ _ _ _)
       refine ⟨hid ⟨M,_,_,_,_,_,_,hX⟩,?_⟩
       rw [HN2.out]
       exact least_lt HMM.out ⟨_,_,_,_,_,_,hX⟩
    ·rw [if_pos hk1] at hgo
     cases hc:e2.args.at 0 with
     | none => rw [hc] at hgo;cases hgo
     | some c =>
      rw [hc] at hgo
      simp only at hgo
      have HGO:=hid hgo
      have hk1':(e2.k != 1) = true:=bne_iff_ne.2 hk1
      have HARG:=hid (fun (w':World) (hb:Below W0.heap.size W0 w') => argCall_any hb e2 c ad2 cap2 way2 0 HA.out.sp hc)
      have HOP:=hid (fun (w':World) => operator_any (w:=w') e2 ad2 cap2)
      obtain ⟨k2,nm2,n2,d2,args2,a2⟩:=e2
      obtain ⟨k5,nm5,n5,d5,args5,a5⟩:=c
      unfold spv ev at *
      simp only at *
      clear hgo hc hk1 hk2
      go_wp2
      have hbd:w.heap.size + 1 + 1 < wr.heap.size:=by omega
      go_region_law (first | (refine step_append_lies _ (by rfl) _ _ _ (by rfl) (w.heap.size + 3) 199 i0 _ 3 24 Tryz.underlying71 HIO.out.1 HIO.out.2.1 HIO.out.2.2.1 HIO.out.2.2.2 rfl oq (.slice ad3 ops2.length cap3) ops2.length (opsV ops2) (by rfl) ((own_below HA.out.own HB3.out).alloc _) ⟨w3.heap.size,0,none⟩ 1 1 [.int .i64 k2,.int .i64 n2,.int .i64 d2] (by rfl) (by rfl) (World.news_of_block (heap_alloc_new _ _)) (by simp [Value.oneCell']) oq (by unfold maxLen;omega) oq (by simp;omega) (w3.heap.size + 1) (by simp) ?_;intro gg cap4 w4 hown4 hgrow4 hat4 hlt4;have hMO:=HA.out.more (o:=(k2,n2,d2)) HB3.out hown4 hgrow4 oq (M:=M) (res':=(s,ops));have kz4:w4.cell? ⟨w.heap.size + 1 + 1,1,none⟩ = some (.slice ad3 ops2.length cap3):=(World.cell?_of_block (w:=wr) (hMO.1 _ (by show w.heap.size + 1 + 1 < w.heap.size + 3;omega))).trans c1;have kf4:w4.frozen? ⟨w.heap.size + 1 + 1,1,none⟩ = false:=(World.frozen?_of_block (w:=wr) (hMO.1 _ (by show w.heap.size + 1 + 1 < w.heap.size + 3;omega))).trans (cfz _);have HMO:=hid hMO;clear hMO hown4 hgrow4) | (go_simp;go_at_call 144;refine (HOP.out _).mono ?_;rintro x w3 ⟨rfl,hb3⟩;have kc3:w3.cell? ⟨w.heap.size + 1 + 1,1,none⟩ = some (.slice ad3 ops2.length cap3):=(hb3.cell (p:=⟨w.heap.size + 1 + 1,1,none⟩) hbd).trans c1;have l3:w.heap.size + 1 + 1 < w3.heap.size:=Nat.lt_of_lt_of_le hbd hb3.size;have HB3:=hid (show Below wr.heap.size wr w3 from ⟨hb3.os,hb3.tape,hb3.output,hb3.size,hb3.block⟩);clear hb3))
      all_goals
       have hb04:(w4.setCell ⟨w.heap.size + 1 + 1,1,none⟩ (.slice (some ⟨gg,0,none⟩) (ops2.length + 1) cap4)).heap[w.heap.size]? = some (spObj ⟨k2,nm2,n2,d2,args2,a2⟩ ad2 cap2 way2):=(Below.heap_setCell _ _ _ _ (by simp;omega)).trans ((HMO.out.1 _ oq).trans HA.out.b0)
       obtain ⟨W5,hW5⟩:∃ W5,w4.setCell ⟨w.heap.size + 1 + 1,1,none⟩ (.slice (some ⟨gg,0,none⟩) (ops2.length + 1) cap4) = W5:=⟨_,rfl⟩
       rw [hW5] at hb04 HMO ⊢
       clear x0 x1 x2 x3 x4 x5 x6 xf
       obtain ⟨⟨x0,x1,x2,x3,x4,x5,x6⟩,xf⟩:=cells7s hb04
       have HB04:=hid hb04
       clear hb04 hW5 kz4 kf4
       go_wp2_with (go_at_call 99;refine (HARG.out W5 (HM.out.low.trans (HMO.out.2.1.1.mono hw0))).mono ?_;rintro x w6 ⟨⟨ad6,cap6,rfl,hsp6⟩,hb6⟩;have hy6:=(hb6.block w.heap.size (by have:=HMO.out.2.1.2;omega)).trans HB04.out;obtain ⟨⟨y0,y1,y2,y3,y4,y5,y6⟩,yf⟩:=cells7s hy6;have HB6:=hid hb6;have HY6:=hid hy6;have HSP6:=hid hsp6;clear hb6 hy6 hsp6)
       have hX:=HMO.out.2.2 M _ _ _ _ HGO.out HSP6.out w6 _ HB6.out (upon7 w6 w.heap.size (.int .i64 k5) (.string nm5) (.int .i64 n5) (.int .i64 d5) (.slice ad6 args5.len cap6) (.int .i64 a5) (.string (way2 ++ ⟨#[47]⟩ ++ dg 0))) (set7 HY6.out _ _ _ _ _ _ _)
       refine ⟨hid ⟨M,_,_,_,_,_,_,hX⟩,?_⟩
       rw [HN2.out]
       exact least_lt HMM.out ⟨_,_,_,_,_,_,hX⟩
end Go.Proofs.YtpjficjlfibibaaGreatDoor.syn
