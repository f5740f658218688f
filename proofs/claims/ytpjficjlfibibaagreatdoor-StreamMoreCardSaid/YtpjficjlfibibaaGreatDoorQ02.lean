/-
  Parts of the proof: Arg, PgA, NoFrz.
-/
import Derived.ChangeArms
import Derived.DataReads
import Derived.Test.YtpjficjlfibibaaGreatDoorQ00
import Derived.Test.YtpjficjlfibibaaGreatDoorQ01
import Derived.ChangeReads
namespace Go.Proofs.YtpjficjlfibibaaGreatDoor.syn
open Go.RowKit Go.ChangeShapes Go.WideShapes
set_option linter.unusedVariables false
set_option linter.unusedSimpArgs false
def AC (w:World):PL → Nat → Nat → Prop
 | .nil,_,_ => True
 | .cons k nm n d args a tl,b,o => w.cell? ⟨b,o,none⟩ = some (.int .i64 k) ∧ w.cell? ⟨b,o + 1,none⟩ = some (.string nm) ∧ w.cell? ⟨b,o + 2,none⟩ = some (.int .i64 n) ∧
   w.cell? ⟨b,o + 3,none⟩ = some (.int .i64 d) ∧ w.cell? ⟨b,o + 5,none⟩ = some (.int .i64 a) ∧ (I64 k ∧ I64 n ∧ I64 d ∧ I64 a ∧ nm.size ≤ 9223372036854775807) ∧
   (∃ ad cap,w.cell? ⟨b,o + 4,none⟩ = some (.slice ad args.len cap) ∧ args.len ≤ cap ∧ cap ≤ 9223372036854775807 ∧ (args = .nil ∨ ∃ b' o',ad = some ⟨b',o',none⟩ ∧ b' < w.heap.size ∧ AC w args b' o')) ∧
   AC w tl b (o + 6)
def AS (w:World) (args:PL) (ad:Option Addr):Prop:=args = .nil ∨ ∃ b o,ad = some ⟨b,o,none⟩ ∧ b < w.heap.size ∧ AC w args b o
structure AE (w:World) (e:PE) (ad:Option Addr) (cap:Nat):Prop where
 nums:I64 e.k ∧ I64 e.n ∧ I64 e.d ∧ I64 e.a ∧ e.nm.size ≤ 9223372036854775807
 len:e.args.len ≤ cap ∧ cap ≤ 9223372036854775807
 args:AS w e.args ad
theorem AC.below {w w':World} (hb:Below w.heap.size w w'):∀ (l:PL) (b o:Nat),b < w.heap.size → AC w l b o → AC w' l b o:=by
 intro l
 induction l with
 | nil => intro b o _ _;trivial
 | cons k nm n d args a tl ih1 ih2 =>
  intro b o hlt h
  have hc:∀ o,w'.cell? ⟨b,o,none⟩ = w.cell? ⟨b,o,none⟩:=fun o => hb.cell (p:=⟨b,o,none⟩) hlt
  obtain ⟨h0,h1,h2,h3,h5,hn,⟨ad,cap,h4,hcap,hm,hd⟩,ht⟩:=h
  refine ⟨(hc _).trans h0,(hc _).trans h1,(hc _).trans h2,(hc _).trans h3,(hc _).trans h5,hn,⟨ad,cap,(hc _).trans h4,hcap,hm,?_⟩,ih2 b _ hlt ht⟩
  rcases hd with hd | ⟨b',o',e,hb',hd⟩
  ·exact .inl hd
  ·exact .inr ⟨b',o',e,Nat.lt_of_lt_of_le hb' hb.size,ih1 b' o' hb' hd⟩
theorem AS.below {w w':World} (hb:Below w.heap.size w w') {args:PL} {ad:Option Addr} (h:AS w args ad):AS w' args ad:=by
 rcases h with h | ⟨b,o,e,hlt,h⟩
 ·exact .inl h
 ·exact .inr ⟨b,o,e,Nat.lt_of_lt_of_le hlt hb.size,h.below hb _ _ _ hlt⟩
theorem AE.below {w w':World} (hb:Below w.heap.size w w') {e:PE} {ad:Option Addr} {cap:Nat} (h:AE w e ad cap):AE w' e ad cap:=⟨h.nums,h.len,h.args.below hb⟩
section
variable {H:Type} {enc:TypeId × Value → H} {w:World} {base:Nat} {sp:Nat → Bool} {held:Bool}
theorem exprFields:(Tryz.prog.fieldsOf 95).toList.map (fun f => (f.type,f.offset)) = [(3,0),(9,1),(2,2),(2,3),(93,4),(3,5)]:=by kernel_rfl
theorem exprStruct:Tryz.prog.underlying 95 = some (.struct (Tryz.prog.fieldsOf 95)):=by kernel_rfl
theorem exprCells:Tryz.prog.cellsOf 95 = 6:=by kernel_rfl
theorem exprsCells:Tryz.prog.cellsOf 93 = 1:=by kernel_rfl
theorem field_cell {cs:List Value} {fs:Array Field} {l:List (TypeId × Nat)} {xs:List (DataW H × List MemPlace)} {n:Nat} (hmap:fs.toList.map (fun f => (f.type,f.offset)) = l) (hlen:xs.length = fs.size)
  (hf:∀ (i:Nat) (f:Field),fs[i]? = some f → DataW.trod enc Tryz.prog w base sp held n f.type ((cs.drop f.offset).take (Tryz.prog.cellsOf f.type)) = xs[i]?) (i:Nat) (ft:TypeId) (o:Nat) (hl:l[i]? = some (ft,o)) (hc:Tryz.prog.cellsOf ft = 1) :
  ∃ y,DataW.trod enc Tryz.prog w base sp held n ft ((cs.drop o).take 1) = some y:=by
 obtain ⟨f,h1,rfl,rfl⟩:=field_at hmap i ft o hl
 have h2:=hf i f h1
 rw [hc] at h2
 have hi:i < xs.length:=by rw [hlen];exact (Array.getElem?_eq_some_iff.1 h1).1
 rw [List.getElem?_eq_getElem hi] at h2
 exact ⟨_,h2⟩
theorem build_list (b o:Nat) :
  ∀ (m i:Nat),(∀ j,i ≤ j → j < i + m → ∃ e ad cap,AE w e ad cap ∧ w.cell? ⟨b,o + j * 6,none⟩ = some (.int .i64 e.k) ∧ w.cell? ⟨b,o + j * 6 + 1,none⟩ = some (.string e.nm) ∧ w.cell? ⟨b,o + j * 6 + 2,none⟩ = some (.int .i64 e.n) ∧
   w.cell? ⟨b,o + j * 6 + 3,none⟩ = some (.int .i64 e.d) ∧ w.cell? ⟨b,o + j * 6 + 4,none⟩ = some (.slice ad e.args.len cap) ∧ w.cell? ⟨b,o + j * 6 + 5,none⟩ = some (.int .i64 e.a)) →
   ∃ l:PL,l.len = m ∧ AC w l b (o + i * 6):=by
 intro m
 induction m with
 | zero => intro i _;exact ⟨.nil,rfl,trivial⟩
 | succ m ih =>
  intro i h
  obtain ⟨l,hl,hc⟩:=ih (i + 1) (fun j h1 h2 => h j oq oq)
  obtain ⟨e,ad,cap,he,c0,c1,c2,c3,c4,c5⟩:=h i (Nat.le_refl _) oq
  refine ⟨.cons e.k e.nm e.n e.d e.args e.a l,by simp [PL.len,hl],c0,c1,c2,c3,c5,he.nums,⟨ad,cap,c4,he.len.1,he.len.2,he.args⟩,?_⟩
  rw [show o + i * 6 + 6 = o + (i + 1) * 6 by omega];exact hc
theorem open_expr:∀ (fuel:Nat),
  (∀ cs x,DataW.trod enc Tryz.prog w base sp held fuel 95 cs = some x → ∃ e ad cap,AE w e ad cap ∧ cs = [.int .i64 e.k,.string e.nm,.int .i64 e.n,.int .i64 e.d,.slice ad e.args.len cap,.int .i64 e.a]) ∧
  (∀ cs x,DataW.trod enc Tryz.prog w base sp held fuel 93 cs = some x → ∃ l ad cap,AS w l ad ∧ l.len ≤ cap ∧ cap ≤ 9223372036854775807 ∧ cs = [.slice ad l.len cap]):=by
 intro fuel
 induction fuel using Nat.strongRecOn with
 | _ fuel ih =>
  refine ⟨fun cs x h => ?_,fun cs x h => ?_⟩
  ·obtain ⟨xs,n,rfl,_,hlen,hxl,hf⟩:=DataW.trod_struct exprStruct h
   rw [exprCells] at hlen
   obtain ⟨y0,h0⟩:=field_cell exprFields hxl hf 0 3 0 rfl intCells
   obtain ⟨y1,h1⟩:=field_cell exprFields hxl hf 1 9 1 rfl stringCells
   obtain ⟨y2,h2⟩:=field_cell exprFields hxl hf 2 2 2 rfl int64Cells
   obtain ⟨y3,h3⟩:=field_cell exprFields hxl hf 3 2 3 rfl int64Cells
   obtain ⟨y4,h4⟩:=field_cell exprFields hxl hf 4 93 4 rfl exprsCells
   obtain ⟨y5,h5⟩:=field_cell exprFields hxl hf 5 3 5 rfl intCells
   obtain ⟨k,e0,_,w0⟩:=DataW.trod_int Tryz.underlying3 h0
   obtain ⟨nm,e1,_,w1⟩:=DataW.trod_string Tryz.underlying9 h1
   obtain ⟨m,e2,_,w2⟩:=DataW.trod_int Tryz.underlying2 h2
   obtain ⟨d,e3,_,w3⟩:=DataW.trod_int Tryz.underlying2 h3
   obtain ⟨l,ad,cap,hs,hl1,hl2,e4⟩:=(ih n oq).2 _ _ h4
   obtain ⟨a,e5,_,w5⟩:=DataW.trod_int Tryz.underlying3 h5
   refine ⟨⟨k,nm,m,d,l,a⟩,ad,cap,⟨⟨i64_of w0,i64_of w2,i64_of w3,i64_of w5,maxLen_le w1⟩,⟨hl1,hl2⟩,hs⟩,?_⟩
   have g0:=one_cell e0
   have g1:=one_cell e1
   have g2:=one_cell e2
   have g3:=one_cell e3
   have g4:=one_cell e4
   have g5:=one_cell e5
   refine List.ext_getElem? fun i => ?_
   by_cases hi:i < 6
   ·obtain rfl | rfl | rfl | rfl | rfl | rfl:i = 0 ∨ i = 1 ∨ i = 2 ∨ i = 3 ∨ i = 4 ∨ i = 5:=by omega
    ·exact g0
    ·exact g1
    ·exact g2
    ·exact g3
    ·exact g4
    ·exact g5
   ·rw [List.getElem?_eq_none oq,List.getElem?_eq_none (by simp;omega)]
  ·rcases DataW.trod_slice Tryz.underlying93 h with ⟨rfl,_⟩ | ⟨ad,len,cap,elems,rest,n,rfl,rfl,_,_,hl,hm,hel,hall,_⟩
   ·exact ⟨.nil,none,0,.inl rfl,Nat.le_refl _,Nat.zero_le _,rfl⟩
   ·have hm':cap ≤ 9223372036854775807:=maxLen_le hm
    by_cases h0:len = 0
    ·subst h0;exact ⟨.nil,some ad,cap,.inl rfl,Nat.zero_le _,hm',rfl⟩
    ·rw [exprCells] at hall
     have key:∀ i,i < len → ∃ cs',w.cells? base (ad.add (i * 6)) 6 = some cs' ∧ ∃ y,DataW.trod enc Tryz.prog w base sp held n 95 cs' = some y:=by
      intro i hi
      have h1:=hall i hi
      rw [List.getElem?_eq_getElem oq] at h1
      obtain ⟨cs',h2,h3⟩:=Option.bind_eq_some_iff.1 h1
      exact ⟨cs',h2,_,h3⟩
     obtain ⟨b,o,spt⟩:=ad
     obtain ⟨cs0,hc0,y0,hy0⟩:=key 0 oq
     obtain ⟨_,hlen0,hcell0⟩:=World.cells?_some hc0
     have hspot:spt = none:=by
      have:=hcell0 0 oq
      rw [List.getElem?_eq_getElem oq] at this
      simpa [Addr.add] using World.cell?_spot this
     subst hspot
     have hcells:∀ j,0 ≤ j → j < 0 + len → ∃ e ad cap,AE w e ad cap ∧ w.cell? ⟨b,o + j * 6,none⟩ = some (.int .i64 e.k) ∧ w.cell? ⟨b,o + j * 6 + 1,none⟩ = some (.string e.nm) ∧ w.cell? ⟨b,o + j * 6 + 2,none⟩ = some (.int .i64 e.n) ∧
       w.cell? ⟨b,o + j * 6 + 3,none⟩ = some (.int .i64 e.d) ∧ w.cell? ⟨b,o + j * 6 + 4,none⟩ = some (.slice ad e.args.len cap) ∧ w.cell? ⟨b,o + j * 6 + 5,none⟩ = some (.int .i64 e.a):=by
      intro j _ hj
      obtain ⟨cs',h2,y,hy⟩:=key j oq
      obtain ⟨e,ad,cap,he,rfl⟩:=(ih n oq).1 _ _ hy
      obtain ⟨_,_,hcell⟩:=World.cells?_some h2
      have hadd:∀ i,((⟨b,o,none⟩:Addr).add (j * 6)).add i = ⟨b,o + j * 6 + i,none⟩:=by
       intro i;unfold Addr.add;by_cases h1:j * 6 = 0 <;> by_cases h2:i = 0 <;> simp [h1,h2]
      refine ⟨e,ad,cap,he,?_,?_,?_,?_,?_,?_⟩
      ·have:=hcell 0 oq;rw [hadd] at this;exact this
      ·have:=hcell 1 oq;rw [hadd] at this;exact this
      ·have:=hcell 2 oq;rw [hadd] at this;exact this
      ·have:=hcell 3 oq;rw [hadd] at this;exact this
      ·have:=hcell 4 oq;rw [hadd] at this;exact this
      ·have:=hcell 5 oq;rw [hadd] at this;exact this
     obtain ⟨l,hll,hac⟩:=build_list (w:=w) b o len 0 hcells
     have hb:b < w.heap.size:=by
      obtain ⟨e,_,_,_,hc,_⟩:=hcells 0 (Nat.le_refl _) oq
      exact World.block_lt_of_cell? _ _ hc
     exact ⟨l,some ⟨b,o,none⟩,cap,.inr ⟨b,o,rfl,hb,by simpa using hac⟩,by omega,hm',by rw [hll]⟩
end
structure ND where
 nm:ByteArray
 ps:List ByteArray
 bud:Int
 body:PE
 a:Int
structure IN where
 nm:ByteArray
 per:Int
 ph:Int
 a:Int
structure FL where
 nm:ByteArray
 e:PE
 a:Int
structure OU where
 nm:ByteArray
 fl:ByteArray
 dl:Int
 a:Int
structure PG where
 nodes:List ND
 ins:List IN
 flows:List FL
 outs:List OU
def CellE (w:World) (b o:Nat) (e:PE):Prop :=
 ∃ ad cap,w.cell? ⟨b,o,none⟩ = some (.int .i64 e.k) ∧ w.cell? ⟨b,o + 1,none⟩ = some (.string e.nm) ∧ w.cell? ⟨b,o + 2,none⟩ = some (.int .i64 e.n) ∧ w.cell? ⟨b,o + 3,none⟩ = some (.int .i64 e.d) ∧
  w.cell? ⟨b,o + 4,none⟩ = some (.slice ad e.args.len cap) ∧ w.cell? ⟨b,o + 5,none⟩ = some (.int .i64 e.a) ∧ AE w e ad cap
def NodeC (w:World) (b o:Nat) (x:ND):Prop :=
 w.cell? ⟨b,o,none⟩ = some (.string x.nm) ∧ (∃ ad cap,w.cell? ⟨b,o + 1,none⟩ = some (.slice ad x.ps.length cap) ∧ x.ps.length ≤ cap ∧ cap ≤ 9223372036854775807 ∧ Row StrC 1 w x.ps ad) ∧ w.cell? ⟨b,o + 2,none⟩ = some (.int .i64 x.bud) ∧
  CellE w b (o + 3) x.body ∧ w.cell? ⟨b,o + 9,none⟩ = some (.int .i64 x.a) ∧ (x.nm.size ≤ 9223372036854775807 ∧ I64 x.bud ∧ I64 x.a)
def InC (w:World) (b o:Nat) (x:IN):Prop :=
 w.cell? ⟨b,o,none⟩ = some (.string x.nm) ∧ w.cell? ⟨b,o + 1,none⟩ = some (.int .i64 x.per) ∧ w.cell? ⟨b,o + 2,none⟩ = some (.int .i64 x.ph) ∧ w.cell? ⟨b,o + 3,none⟩ = some (.int .i64 x.a) ∧ (x.nm.size ≤ 9223372036854775807 ∧ I64 x.per ∧ I64 x.ph ∧ I64 x.a)
def FlC (w:World) (b o:Nat) (x:FL):Prop :=
 w.cell? ⟨b,o,none⟩ = some (.string x.nm) ∧ CellE w b (o + 1) x.e ∧ w.cell? ⟨b,o + 7,none⟩ = some (.int .i64 x.a) ∧ (x.nm.size ≤ 9223372036854775807 ∧ I64 x.a)
def OuC (w:World) (b o:Nat) (x:OU):Prop :=
 w.cell? ⟨b,o,none⟩ = some (.string x.nm) ∧ w.cell? ⟨b,o + 1,none⟩ = some (.string x.fl) ∧ w.cell? ⟨b,o + 2,none⟩ = some (.int .i64 x.dl) ∧ w.cell? ⟨b,o + 3,none⟩ = some (.int .i64 x.a) ∧ (x.nm.size ≤ 9223372036854775807 ∧ x.fl.size ≤ 9223372036854775807 ∧ I64 x.dl ∧ I64 x.a)
theorem CellE.below {w w':World} {b o:Nat} {e:PE} (hb:Below w.heap.size w w') (hlt:b < w.heap.size) (h:CellE w b o e):CellE w' b o e:=by
 obtain ⟨ad,cap,h0,h1,h2,h3,h4,h5,h6⟩:=h
 have hc:∀ o,w'.cell? ⟨b,o,none⟩ = w.cell? ⟨b,o,none⟩:=fun o => hb.cell (p:=⟨b,o,none⟩) hlt
 exact ⟨ad,cap,(hc _).trans h0,(hc _).trans h1,(hc _).trans h2,(hc _).trans h3,(hc _).trans h4,(hc _).trans h5,h6.below hb⟩
theorem strSta:Sta StrC:=fun w w' b o x hb hlt h => ⟨(hb.cell (p:=⟨b,o,none⟩) hlt).trans h.1,h.2⟩
theorem nodeSta:Sta NodeC:=fun w w' b o x hb hlt h => by
 have hc:∀ o,w'.cell? ⟨b,o,none⟩ = w.cell? ⟨b,o,none⟩:=fun o => hb.cell (p:=⟨b,o,none⟩) hlt
 obtain ⟨h0,⟨ad,cap,h1,h2,h3,h4⟩,h5,h6,h7,h8⟩:=h
 exact ⟨(hc _).trans h0,⟨ad,cap,(hc _).trans h1,h2,h3,h4.below strSta hb⟩,(hc _).trans h5,h6.below hb hlt,(hc _).trans h7,h8⟩
theorem inSta:Sta InC:=fun w w' b o x hb hlt h => by
 have hc:∀ o,w'.cell? ⟨b,o,none⟩ = w.cell? ⟨b,o,none⟩:=fun o => hb.cell (p:=⟨b,o,none⟩) hlt
 obtain ⟨h0,h1,h2,h3,h4⟩:=h
 exact ⟨(hc _).trans h0,(hc _).trans h1,(hc _).trans h2,(hc _).trans h3,h4⟩
theorem flSta:Sta FlC:=fun w w' b o x hb hlt h => by
 have hc:∀ o,w'.cell? ⟨b,o,none⟩ = w.cell? ⟨b,o,none⟩:=fun o => hb.cell (p:=⟨b,o,none⟩) hlt
 obtain ⟨h0,h1,h2,h3⟩:=h
 exact ⟨(hc _).trans h0,h1.below hb hlt,(hc _).trans h2,h3⟩
theorem ouSta:Sta OuC:=fun w w' b o x hb hlt h => by
 have hc:∀ o,w'.cell? ⟨b,o,none⟩ = w.cell? ⟨b,o,none⟩:=fun o => hb.cell (p:=⟨b,o,none⟩) hlt
 obtain ⟨h0,h1,h2,h3,h4⟩:=h
 exact ⟨(hc _).trans h0,(hc _).trans h1,(hc _).trans h2,(hc _).trans h3,h4⟩
structure AP (w:World) (p:PG) (an ai af ao:Option Addr) (cn ci cf co:Nat):Prop where
 nodes:Row NodeC 10 w p.nodes an
 ins:Row InC 4 w p.ins ai
 flows:Row FlC 8 w p.flows af
 outs:Row OuC 4 w p.outs ao
 caps:(p.nodes.length ≤ cn ∧ cn ≤ 9223372036854775807) ∧ (p.ins.length ≤ ci ∧ ci ≤ 9223372036854775807) ∧ (p.flows.length ≤ cf ∧ cf ≤ 9223372036854775807) ∧ (p.outs.length ≤ co ∧ co ≤ 9223372036854775807)
def pv (p:PG) (an ai af ao:Option Addr) (cn ci cf co:Nat):Value:=.agg #[.slice an p.nodes.length cn,.slice ai p.ins.length ci,.slice af p.flows.length cf,.slice ao p.outs.length co]
theorem AP.below {w w':World} {p:PG} {an ai af ao:Option Addr} {cn ci cf co:Nat} (hb:Below w.heap.size w w') (h:AP w p an ai af ao cn ci cf co):AP w' p an ai af ao cn ci cf co :=
 ⟨h.nodes.below nodeSta hb,h.ins.below inSta hb,h.flows.below flSta hb,h.outs.below ouSta hb,h.caps⟩
section
variable {H:Type} {enc:TypeId × Value → H} {w:World} {base:Nat} {sp:Nat → Bool} {held:Bool}
theorem nodeFields:(Tryz.prog.fieldsOf 97).toList.map (fun f => (f.type,f.offset)) = [(9,0),(92,1),(2,2),(95,3),(3,9)]:=by kernel_rfl
theorem nodeStruct:Tryz.prog.underlying 97 = some (.struct (Tryz.prog.fieldsOf 97)):=by kernel_rfl
theorem nodeCells:Tryz.prog.cellsOf 97 = 10:=by kernel_rfl
theorem inFields:(Tryz.prog.fieldsOf 106).toList.map (fun f => (f.type,f.offset)) = [(9,0),(2,1),(2,2),(3,3)]:=by kernel_rfl
theorem inStruct:Tryz.prog.underlying 106 = some (.struct (Tryz.prog.fieldsOf 106)):=by kernel_rfl
theorem inCells:Tryz.prog.cellsOf 106 = 4:=by kernel_rfl
theorem flFields:(Tryz.prog.fieldsOf 108).toList.map (fun f => (f.type,f.offset)) = [(9,0),(95,1),(3,7)]:=by kernel_rfl
theorem flStruct:Tryz.prog.underlying 108 = some (.struct (Tryz.prog.fieldsOf 108)):=by kernel_rfl
theorem flCells:Tryz.prog.cellsOf 108 = 8:=by kernel_rfl
theorem ouFields:(Tryz.prog.fieldsOf 110).toList.map (fun f => (f.type,f.offset)) = [(9,0),(9,1),(2,2),(3,3)]:=by kernel_rfl
theorem ouStruct:Tryz.prog.underlying 110 = some (.struct (Tryz.prog.fieldsOf 110)):=by kernel_rfl
theorem ouCells:Tryz.prog.cellsOf 110 = 4:=by kernel_rfl
theorem pgFields:(Tryz.prog.fieldsOf 27).toList.map (fun f => (f.type,f.offset)) = [(22,0),(23,1),(24,2),(25,3)]:=by kernel_rfl
theorem pgStruct:Tryz.prog.underlying 27 = some (.struct (Tryz.prog.fieldsOf 27)):=by kernel_rfl
theorem pgCells:Tryz.prog.cellsOf 27 = 4:=by kernel_rfl
theorem slCells1:Tryz.prog.cellsOf 92 = 1:=by kernel_rfl
theorem slCells2:Tryz.prog.cellsOf 22 = 1:=by kernel_rfl
theorem slCells3:Tryz.prog.cellsOf 23 = 1:=by kernel_rfl
theorem slCells4:Tryz.prog.cellsOf 24 = 1:=by kernel_rfl
theorem slCells5:Tryz.prog.cellsOf 25 = 1:=by kernel_rfl
theorem open_strs {n:Nat} {cs:List Value} {x} (h:DataW.trod enc Tryz.prog w base sp held n 92 cs = some x):∃ (l:List ByteArray) (ad:Option Addr) (cap:Nat),Row StrC 1 w l ad ∧ l.length ≤ cap ∧ cap ≤ 9223372036854775807 ∧ cs = [.slice ad l.length cap] :=
 open_row Tryz.underlying92 stringCells oq (fun n cs x h => by
  obtain ⟨s,rfl,_,hs⟩:=DataW.trod_string Tryz.underlying9 h
  exact ⟨s,fun b o _ hc => ⟨by have:=hc 0 oq;simpa using this,maxLen_le hs⟩⟩) h
theorem open_cellE {cs:List Value} {o:Nat} {n:Nat} {y} (h:DataW.trod enc Tryz.prog w base sp held n 95 ((cs.drop o).take 6) = some y) :
  ∃ e:PE,∀ b p,(∀ j,j < 6 → w.cell? ⟨b,p + j,none⟩ = cs[o + j]?) → CellE w b p e:=by
 obtain ⟨e,ad,cap,he,hcs⟩:=(open_expr n).1 _ _ h
 refine ⟨e,fun b p hc => ⟨ad,cap,?_,?_,?_,?_,?_,?_,he⟩⟩
 ·exact (hc 0 oq).trans ((sub_cell hcs oq).trans rfl)
 ·exact (hc 1 oq).trans ((sub_cell hcs oq).trans rfl)
 ·exact (hc 2 oq).trans ((sub_cell hcs oq).trans rfl)
 ·exact (hc 3 oq).trans ((sub_cell hcs oq).trans rfl)
 ·exact (hc 4 oq).trans ((sub_cell hcs oq).trans rfl)
 ·exact (hc 5 oq).trans ((sub_cell hcs oq).trans rfl)
theorem open_node (n:Nat) (cs:List Value) (x) (h:DataW.trod enc Tryz.prog w base sp held n 97 cs = some x):∃ a:ND,∀ b o,b < w.heap.size → (∀ j,j < 10 → w.cell? ⟨b,o + j,none⟩ = cs[j]?) → NodeC w b o a:=by
 obtain ⟨xs,n,rfl,_,hlen,hxl,hf⟩:=DataW.trod_struct nodeStruct h
 obtain ⟨y0,h0⟩:=field_cells nodeFields hxl hf 0 9 0 1 rfl stringCells
 obtain ⟨y1,h1⟩:=field_cells nodeFields hxl hf 1 92 1 1 rfl slCells1
 obtain ⟨y2,h2⟩:=field_cells nodeFields hxl hf 2 2 2 1 rfl int64Cells
 obtain ⟨y3,h3⟩:=field_cells nodeFields hxl hf 3 95 3 6 rfl exprCells
 obtain ⟨y4,h4⟩:=field_cells nodeFields hxl hf 4 3 9 1 rfl intCells
 obtain ⟨nm,e0,_,w0⟩:=DataW.trod_string Tryz.underlying9 h0
 obtain ⟨ps,ad,cap,hr,hp1,hp2,e1⟩:=open_strs h1
 obtain ⟨bud,e2,_,w2⟩:=DataW.trod_int Tryz.underlying2 h2
 obtain ⟨body,hbody⟩:=open_cellE h3
 obtain ⟨a,e4,_,w4⟩:=DataW.trod_int Tryz.underlying3 h4
 refine ⟨⟨nm,ps,bud,body,a⟩,fun b o hb hc => ⟨?_,⟨ad,cap,?_,hp1,hp2,hr⟩,?_,hbody b (o + 3) (fun j hj => by rw [Nat.add_assoc];exact hc (3 + j) oq),?_,maxLen_le w0,i64_of w2,i64_of w4⟩⟩
 ·exact (hc 0 oq).trans (one_cell e0)
 ·exact (hc 1 oq).trans (one_cell e1)
 ·exact (hc 2 oq).trans (one_cell e2)
 ·exact (hc 9 oq).trans (one_cell e4)
theorem open_in (n:Nat) (cs:List Value) (x) (h:DataW.trod enc Tryz.prog w base sp held n 106 cs = some x):∃ a:IN,∀ b o,b < w.heap.size → (∀ j,j < 4 → w.cell? ⟨b,o + j,none⟩ = cs[j]?) → InC w b o a:=by
 obtain ⟨xs,n,rfl,_,hlen,hxl,hf⟩:=DataW.trod_struct inStruct h
 obtain ⟨y0,h0⟩:=field_cells inFields hxl hf 0 9 0 1 rfl stringCells
 obtain ⟨y1,h1⟩:=field_cells inFields hxl hf 1 2 1 1 rfl int64Cells
 obtain ⟨y2,h2⟩:=field_cells inFields hxl hf 2 2 2 1 rfl int64Cells
 obtain ⟨y3,h3⟩:=field_cells inFields hxl hf 3 3 3 1 rfl intCells
 obtain ⟨nm,e0,_,w0⟩:=DataW.trod_string Tryz.underlying9 h0
 obtain ⟨per,e1,_,w1⟩:=DataW.trod_int Tryz.underlying2 h1
 obtain ⟨ph,e2,_,w2⟩:=DataW.trod_int Tryz.underlying2 h2
 obtain ⟨a,e3,_,w3⟩:=DataW.trod_int Tryz.underlying3 h3
 exact ⟨⟨nm,per,ph,a⟩,fun b o hb hc => ⟨(hc 0 oq).trans (one_cell e0),(hc 1 oq).trans (one_cell e1),(hc 2 oq).trans (one_cell e2),(hc 3 oq).trans (one_cell e3),maxLen_le w0,i64_of w1,i64_of w2,i64_of w3⟩⟩
theorem open_fl (n:Nat) (cs:List Value) (x) (h:DataW.trod enc Tryz.prog w base sp held n 108 cs = some x):∃ a:FL,∀ b o,b < w.heap.size → (∀ j,j < 8 → w.cell? ⟨b,o + j,none⟩ = cs[j]?) → FlC w b o a:=by
 obtain ⟨xs,n,rfl,_,hlen,hxl,hf⟩:=DataW.trod_struct flStruct h
 obtain ⟨y0,h0⟩:=field_cells flFields hxl hf 0 9 0 1 rfl stringCells
 obtain ⟨y1,h1⟩:=field_cells flFields hxl hf 1 95 1 6 rfl exprCells
 obtain ⟨y2,h2⟩:=field_cells flFields hxl hf 2 3 7 1 rfl intCells
 obtain ⟨nm,e0,_,w0⟩:=DataW.trod_string Tryz.underlying9 h0
 obtain ⟨e,he⟩:=open_cellE h1
 obtain ⟨a,e2,_,w2⟩:=DataW.trod_int Tryz.underlying3 h2
 exact ⟨⟨nm,e,a⟩,fun b o hb hc => ⟨(hc 0 oq).trans (one_cell e0),he b (o + 1) (fun j hj => by rw [Nat.add_assoc];exact hc (1 + j) oq),(hc 7 oq).trans (one_cell e2),maxLen_le w0,i64_of w2⟩⟩
theorem open_ou (n:Nat) (cs:List Value) (x) (h:DataW.trod enc Tryz.prog w base sp held n 110 cs = some x):∃ a:OU,∀ b o,b < w.heap.size → (∀ j,j < 4 → w.cell? ⟨b,o + j,none⟩ = cs[j]?) → OuC w b o a:=by
 obtain ⟨xs,n,rfl,_,hlen,hxl,hf⟩:=DataW.trod_struct ouStruct h
 obtain ⟨y0,h0⟩:=field_cells ouFields hxl hf 0 9 0 1 rfl stringCells
 obtain ⟨y1,h1⟩:=field_cells ouFields hxl hf 1 9 1 1 rfl stringCells
 obtain ⟨y2,h2⟩:=field_cells ouFields hxl hf 2 2 2 1 rfl int64Cells
 obtain ⟨y3,h3⟩:=field_cells ouFields hxl hf 3 3 3 1 rfl intCells
 obtain ⟨nm,e0,_,w0⟩:=DataW.trod_string Tryz.underlying9 h0
 obtain ⟨fl,e1,_,w1⟩:=DataW.trod_string Tryz.underlying9 h1
 obtain ⟨dl,e2,_,w2⟩:=DataW.trod_int Tryz.underlying2 h2
 obtain ⟨a,e3,_,w3⟩:=DataW.trod_int Tryz.underlying3 h3
 exact ⟨⟨nm,fl,dl,a⟩,fun b o hb hc => ⟨(hc 0 oq).trans (one_cell e0),(hc 1 oq).trans (one_cell e1),(hc 2 oq).trans (one_cell e2),(hc 3 oq).trans (one_cell e3),maxLen_le w0,maxLen_le w1,i64_of w2,i64_of w3⟩⟩
theorem open_pg {n:Nat} {cs:List Value} {x} (h:DataW.trod enc Tryz.prog w base sp held n 27 cs = some x) :
  ∃ (p:PG) (an ai af ao:Option Addr) (cn ci cf co:Nat),AP w p an ai af ao cn ci cf co ∧ cs = [.slice an p.nodes.length cn,.slice ai p.ins.length ci,.slice af p.flows.length cf,.slice ao p.outs.length co]:=by
 obtain ⟨xs,n,rfl,_,hlen,hxl,hf⟩:=DataW.trod_struct pgStruct h
 rw [pgCells] at hlen
 obtain ⟨y0,h0⟩:=field_cells pgFields hxl hf 0 22 0 1 rfl slCells2
 obtain ⟨y1,h1⟩:=field_cells pgFields hxl hf 1 23 1 1 rfl slCells3
 obtain ⟨y2,h2⟩:=field_cells pgFields hxl hf 2 24 2 1 rfl slCells4
 obtain ⟨y3,h3⟩:=field_cells pgFields hxl hf 3 25 3 1 rfl slCells5
 obtain ⟨nodes,an,cn,rn,n1,n2,en⟩:=open_row Tryz.underlying22 nodeCells oq open_node h0
 obtain ⟨ins,ai,ci,ri,i1,i2,ei⟩:=open_row Tryz.underlying23 inCells oq open_in h1
 obtain ⟨flows,af,cf,rf,f1,f2,ef⟩:=open_row Tryz.underlying24 flCells oq open_fl h2
 obtain ⟨outs,ao,co,ro,o1,o2,eo⟩:=open_row Tryz.underlying25 ouCells oq open_ou h3
 refine ⟨⟨nodes,ins,flows,outs⟩,an,ai,af,ao,cn,ci,cf,co,⟨rn,ri,rf,ro,⟨n1,n2⟩,⟨i1,i2⟩,⟨f1,f2⟩,⟨o1,o2⟩⟩,?_⟩
 have g0:=one_cell en
 have g1:=one_cell ei
 have g2:=one_cell ef
 have g3:=one_cell eo
 refine List.ext_getElem? fun i => ?_
 by_cases hi:i < 4
 ·obtain rfl | rfl | rfl | rfl:i = 0 ∨ i = 1 ∨ i = 2 ∨ i = 3:=by omega
  ·exact g0
  ·exact g1
  ·exact g2
  ·exact g3
 ·rw [List.getElem?_eq_none oq,List.getElem?_eq_none (by simp;omega)]
end
def NF (w:World):PL → Nat → Nat → Prop
 | .nil,_,_ => True
 | .cons k nm n d args a tl,b,o => w.frozen? ⟨b,o,none⟩ = false ∧ (∀ b' o' cap,w.cell? ⟨b,o + 4,none⟩ = some (.slice (some ⟨b',o',none⟩) args.len cap) → NF w args b' o') ∧ NF w tl b (o + 6)
theorem NF.below {w w':World} (hb:Below w.heap.size w w'):∀ (l:PL) (b o:Nat),b < w.heap.size → AC w l b o → NF w l b o → NF w' l b o:=by
 intro l
 induction l with
 | nil => intro b o _ _ _;trivial
 | cons k nm n d args a tl ih1 ih2 =>
  intro b o hlt h hn
  obtain ⟨_,_,_,_,_,_,⟨ad,cap,h4,_,_,hd⟩,ht⟩:=h
  obtain ⟨n0,n1,n2⟩:=hn
  refine ⟨(hb.frozen (p:=⟨b,o,none⟩) hlt).trans n0,fun b' o' cap' hc => ?_,ih2 b _ hlt ht n2⟩
  have hc':=(hb.cell (p:=⟨b,o + 4,none⟩) hlt).symm.trans hc
  have h5:=n1 b' o' cap' hc'
  rw [h4] at hc'
  injection hc' with hc'
  injection hc' with e1 _ _
  rcases hd with rfl | ⟨b2,o2,e,hb2,hd⟩
  ·trivial
  ·rw [e1] at e
   injection e with e;injection e with e1 e2
   subst e1;subst e2
   exact ih1 _ _ hb2 hd h5
theorem NF.drop {w:World}:∀ (l:PL) (b o:Nat),NF w l b o → True:=fun _ _ _ _ => trivial
section
variable {H:Type} {enc:TypeId × Value → H} {w:World} {base:Nat} {sp:Nat → Bool} {held:Bool}
theorem field_in {cs:List Value} {fs:Array Field} {l:List (TypeId × Nat)} {xs:List (DataW H × List MemPlace)} {n:Nat} (hmap:fs.toList.map (fun f => (f.type,f.offset)) = l) (hlen:xs.length = fs.size)
  (hf:∀ (i:Nat) (f:Field),fs[i]? = some f → DataW.trod enc Tryz.prog w base sp held n f.type ((cs.drop f.offset).take (Tryz.prog.cellsOf f.type)) = xs[i]?) (i:Nat) (ft:TypeId) (o m:Nat) (hl:l[i]? = some (ft,o)) (hc:Tryz.prog.cellsOf ft = m) :
  ∃ y ∈ xs,DataW.trod enc Tryz.prog w base sp held n ft ((cs.drop o).take m) = some y:=by
 obtain ⟨f,h1,rfl,rfl⟩:=field_at hmap i ft o hl
 have h2:=hf i f h1
 rw [hc] at h2
 have hi:i < xs.length:=by rw [hlen];exact (Array.getElem?_eq_some_iff.1 h1).1
 rw [List.getElem?_eq_getElem hi] at h2
 exact ⟨_,List.getElem_mem hi,h2⟩
theorem nz_sub {xs:List (DataW H × List MemPlace)} (h:w.noneFrozen (xs.flatMap (·.2))) {y} (hy:y ∈ xs):w.noneFrozen y.2 :=
 fun b o hm => h b o (List.mem_flatMap.2 ⟨y,hy,hm⟩)
theorem add_at (b o n i:Nat):((⟨b,o,none⟩:Addr).add n).add i = ⟨b,o + n + i,none⟩:=by
 unfold Addr.add;by_cases h1:n = 0 <;> by_cases h2:i = 0 <;> simp [h1,h2]
theorem nf_row:∀ (l:PL) (b o:Nat),AC w l b o → (∀ i,i < l.len → w.frozen? ⟨b,o + i * 6,none⟩ = false) →
  (∀ i,i < l.len → ∃ n cs y,(∀ j,j < 6 → w.cell? ⟨b,o + i * 6 + j,none⟩ = cs[j]?) ∧ DataW.trod enc Tryz.prog w base sp held n 95 cs = some y ∧ w.noneFrozen y.2) → NF w l b o:=by
 intro l
 induction l with
 | nil => intro b o _ _ _;trivial
 | cons k nm n d args a tl ih1 ih2 =>
  intro b o hac hfz hel
  obtain ⟨_,_,_,_,_,_,⟨ad,cap,h4,_,_,hd⟩,ht⟩:=hac
  refine ⟨by have:=hfz 0 (by simp [PL.len]);simpa using this,fun b' o' cap' hc => ?_,ih2 b (o + 6) ht (fun i hi => ?_) (fun i hi => ?_)⟩
  ·rw [h4] at hc
   injection hc with hc
   injection hc with e1 _ e3
   subst e1
   rcases hd with rfl | ⟨b2,o2,e,hb2,hd⟩
   ·trivial
   ·injection e with e;injection e with e1 e2
    subst e1;subst e2
    obtain ⟨m,cs,y,hcs,hy,hz⟩:=hel 0 (by simp [PL.len])
    obtain ⟨xs,m,rfl,rfl,hlen,hxl,hf⟩:=DataW.trod_struct exprStruct hy
    obtain ⟨y4,hy4,t4⟩:=field_in exprFields hxl hf 4 93 4 1 rfl exprsCells
    have hz4:=nz_sub hz hy4
    have hc4:=hcs 4 oq
    rw [Nat.zero_mul,Nat.add_zero,h4] at hc4
    have h41:(cs.drop 4).take 1 = [Value.slice (some ⟨b',o',none⟩) args.len cap]:=by
     rw [List.take_one,List.head?_drop,← hc4];rfl
    rw [h41] at t4
    rcases DataW.trod_slice Tryz.underlying93 t4 with ⟨h,_⟩ | ⟨a0,len,cp,elems,rest,q,rfl,h,rfl,_,_,_,hl,hall,_⟩
    ·simp at h
    ·simp at h
     obtain ⟨rfl,rfl,rfl⟩:=h
     rw [exprCells] at hall hz4
     refine ih1 _ _ hd (fun i hi => ?_) (fun i hi => ?_)
     ·exact hz4 b' (o' + i * 6) (List.mem_append_left _ (MemPlace.mem_row.2 ⟨i * 6,by omega,rfl⟩))
     ·have h1:=hall i hi
      rw [List.getElem?_eq_getElem oq] at h1
      obtain ⟨cs',h2,h3⟩:=Option.bind_eq_some_iff.1 h1
      obtain ⟨_,_,hcell⟩:=World.cells?_some h2
      refine ⟨q,cs',_,fun j hj => ?_,h3,fun b o hm => hz4 b o (List.mem_append_right _ (List.mem_flatMap.2 ⟨elems[i],List.mem_append_left _ (List.getElem_mem _),hm⟩))⟩
      have:=hcell j hj
      rw [add_at] at this;exact this
  ·have:=hfz (i + 1) (by simp [PL.len];omega)
   rw [show o + 6 + i * 6 = o + (i + 1) * 6 by omega];exact this
  ·obtain ⟨m,cs,y,hcs,hy,hz⟩:=hel (i + 1) (by simp [PL.len];omega)
   exact ⟨m,cs,y,fun j hj => by rw [show o + 6 + i * 6 + j = o + (i + 1) * 6 + j by omega];exact hcs j hj,hy,hz⟩
def NZ (w:World) (nodes:List ND) (an:Option Addr):Prop:=∀ b o,an = some ⟨b,o,none⟩ → ∀ i (h:i < nodes.length),∀ b' o' cap,
 w.cell? ⟨b,o + i * 10 + 7,none⟩ = some (.slice (some ⟨b',o',none⟩) nodes[i].body.args.len cap) → NF w nodes[i].body.args b' o'
set_option maxRecDepth 10000 in
theorem nz_nodes {nodes:List ND} {an:Option Addr} {cn n:Nat} {x} (hr:Row NodeC 10 w nodes an) (h:DataW.trod enc Tryz.prog w base sp held n 22 [.slice an nodes.length cn] = some x) (hz:w.noneFrozen x.2):NZ w nodes an:=by
 intro b o han i hi b' o' cap hc
 subst han
 obtain ⟨b2,o2,e,hb,hnode⟩:=hr.at hi
 injection e with e;injection e with e1 e2
 subst e1;subst e2
 obtain ⟨_,_,_,⟨ad,cap2,_,_,_,_,h4,_,hae⟩,_⟩:=hnode
 rw [show o + i * 10 + 3 + 4 = o + i * 10 + 7 by omega,hc] at h4
 injection h4 with h4
 injection h4 with h4 _ h6
 subst h4;subst h6
 rcases hae.args with h0 | ⟨b3,o3,e,hb3,hac⟩
 ·rw [h0];trivial
 ·injection e with e;injection e with e1 e2
  subst e1;subst e2
  rcases DataW.trod_slice Tryz.underlying22 h with ⟨hcs0,_⟩ | ⟨a0,len,cp,elems,rest,q,rfl,hcs0,rfl,_,_,_,hl,hall,_⟩
  ·simp at hcs0
  ·simp only [List.cons.injEq,and_true,Value.slice.injEq,Option.some.injEq] at hcs0
   obtain ⟨h01,h02,h03⟩:=hcs0
   subst h01
   subst h02
   rw [nodeCells] at hall hz
   have h1:=hall i hi
   rw [List.getElem?_eq_getElem oq] at h1
   obtain ⟨cs',h2,h3⟩:=Option.bind_eq_some_iff.1 h1
   obtain ⟨_,_,hcell⟩:=World.cells?_some h2
   have hz1:w.noneFrozen (elems[i]'oq).2:=fun b o hm => hz b o (List.mem_append_right _ (List.mem_flatMap.2 ⟨elems[i],List.mem_append_left _ (List.getElem_mem _),hm⟩))
   generalize elems[i]'oq = y at h3 hz1
   obtain ⟨xs,m,rfl,rfl,hlen,hxl,hf⟩:=DataW.trod_struct nodeStruct h3
   obtain ⟨y3,hy3,t3⟩:=field_in nodeFields hxl hf 3 95 3 6 rfl exprCells
   have hz3:=nz_sub hz1 hy3
   obtain ⟨xs2,m2,rfl,rfl,hlen2,hxl2,hf2⟩:=DataW.trod_struct exprStruct t3
   obtain ⟨y4,hy4,t4⟩:=field_in exprFields hxl2 hf2 4 93 4 1 rfl exprsCells
   have hz4:=nz_sub hz3 hy4
   have hc7:=hcell 7 oq
   rw [add_at,hc] at hc7
   have h41:(((cs'.drop 3).take 6).drop 4).take 1 = [Value.slice (some ⟨b',o',none⟩) nodes[i].body.args.len cap]:=by
    rw [List.take_one,List.head?_drop,List.getElem?_take_of_lt oq,List.getElem?_drop,← hc7];rfl
   rw [h41] at t4
   rcases DataW.trod_slice Tryz.underlying93 t4 with ⟨h,_⟩ | ⟨a0,len,cp,elems2,rest2,q2,rfl,h,rfl,_,_,_,hl2,hall2,_⟩
   ·simp at h
   ·simp at h
    obtain ⟨rfl,rfl,rfl⟩:=h
    rw [exprCells] at hall2 hz4
    refine nf_row (enc:=enc) (base:=base) (sp:=sp) (held:=held) _ _ _ hac (fun j hj => ?_) (fun j hj => ?_)
    ·exact hz4 b' (o' + j * 6) (List.mem_append_left _ (MemPlace.mem_row.2 ⟨j * 6,by omega,rfl⟩))
    ·have h1:=hall2 j hj
     rw [List.getElem?_eq_getElem oq] at h1
     obtain ⟨cs2,h2,h3⟩:=Option.bind_eq_some_iff.1 h1
     obtain ⟨_,_,hcell⟩:=World.cells?_some h2
     refine ⟨q2,cs2,_,fun i hi => ?_,h3,fun b o hm => hz4 b o (List.mem_append_right _ (List.mem_flatMap.2 ⟨elems2[j],List.mem_append_left _ (List.getElem_mem _),hm⟩))⟩
     have:=hcell i hi
     rw [add_at] at this;exact this
end
theorem NZ.below {w w':World} {nodes:List ND} {an:Option Addr} (hr:Row NodeC 10 w nodes an) (hb:Below w.heap.size w w') (h:NZ w nodes an):NZ w' nodes an:=by
 intro b o han i hi b' o' cap hc
 subst han
 obtain ⟨b2,o2,e,hlt,hnode⟩:=hr.at hi
 injection e with e;injection e with e1 e2
 subst e1;subst e2
 obtain ⟨_,_,_,⟨ad,cap2,_,_,_,_,h4,_,hae⟩,_⟩:=hnode
 have hc':=(hb.cell (p:=⟨b,o + i * 10 + 7,none⟩) hlt).symm.trans hc
 have hn:=h b o rfl i hi b' o' cap hc'
 rw [show o + i * 10 + 3 + 4 = o + i * 10 + 7 by omega,hc'] at h4
 injection h4 with h4
 injection h4 with h4 _ h6
 subst h4;subst h6
 rcases hae.args with h0 | ⟨b3,o3,e,hb3,hac⟩
 ·rw [h0];trivial
 ·injection e with e;injection e with e1 e2
  subst e1;subst e2
  exact hn.below hb _ _ _ hb3 hac
end Go.Proofs.YtpjficjlfibibaaGreatDoor.syn
