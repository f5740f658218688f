/-
  Parts of the proof: Flt2, Flt3, Flt4.
-/
import Derived.Test.YteaiemfhlpoieaaGreatDoorQ20
namespace Go.Proofs.YteaiemfhlpoieaaGreatDoor.syn
open Go.RowKit
set_option linter.unusedVariables false
set_option linter.unusedSimpArgs false
def SF (pb b o:Nat) (v:Value) (k2:Int) (nm2:ByteArray) (n2 d2:Int) (len2 cap2:Nat) (ad2:Option Addr) (a2:Int) (w':World):Prop :=
  w'.cell? ⟨pb,2,none⟩ = some v ∧ w'.cell? ⟨b,o + 1,none⟩ = some (.int .i64 k2) ∧ w'.cell? ⟨b,o + 2,none⟩ = some (.string nm2) ∧ w'.cell? ⟨b,o + 3,none⟩ = some (.int .i64 n2) ∧ w'.cell? ⟨b,o + 4,none⟩ = some (.int .i64 d2) ∧ w'.cell? ⟨b,o + 5,none⟩ = some (.slice ad2 len2 cap2) ∧ w'.cell? ⟨b,o + 6,none⟩ = some (.int .i64 a2)
section
variable {pb b o:Nat} {v:Value} {k2:Int} {nm2:ByteArray} {n2 d2:Int} {len2 cap2:Nat} {ad2:Option Addr} {a2:Int} {w':World}
theorem SF.drew (h:SF pb b o v k2 nm2 n2 d2 len2 cap2 ad2 a2 w'):SF pb b o v k2 nm2 n2 d2 len2 cap2 ad2 a2 w'.drew:=h
theorem SF.set (h:SF pb b o v k2 nm2 n2 d2 len2 cap2 ad2 a2 w') {g j:Nat} (h1:¬ pb = g) (h2:¬ b = g) (u:Value):SF pb b o v k2 nm2 n2 d2 len2 cap2 ad2 a2 (w'.setCell ⟨g,j,none⟩ u):=by
  have hc:∀ o,(w'.setCell ⟨g,j,none⟩ u).cell? ⟨b,o,none⟩ = w'.cell? ⟨b,o,none⟩:=fun o => World.cell?_setCell_far _ _ _ _ (fun e => h2 e.symm)
  have hd:∀ o,(w'.setCell ⟨g,j,none⟩ u).cell? ⟨pb,o,none⟩ = w'.cell? ⟨pb,o,none⟩:=fun o => World.cell?_setCell_far _ _ _ _ (fun e => h1 e.symm)
  obtain ⟨x0,x1,x2,x3,x4,x5,x6⟩:=h
  exact ⟨(hd _).trans x0,(hc _).trans x1,(hc _).trans x2,(hc _).trans x3,(hc _).trans x4,(hc _).trans x5,(hc _).trans x6⟩
end
set_option maxRecDepth 100000 in
set_option maxHeartbeats 2000000 in
theorem flowSpot_any {W0 w:World} (hl:Below W0.heap.size W0 w) (p:PG) (an ai af ao:Option Addr) (cn ci cf co:Nat) (hp:AP W0 p an ai af ao cn ci cf co) (i:Nat) (hi:i < p.flows.length) (hi2:i < 100) :
    Calls Tryz.prog 60 #[pv p an ai af ao cn ci cf co,.int .i64 (i:Int)] w fun x w' => (∃ ad2 cap2,x = .returned (spv p.flows[i].e ad2 cap2 (dg i)) ∧ AE W0 p.flows[i].e ad2 cap2) ∧ Below w.heap.size w w':=by
  obtain ⟨nodes,ins,flows,outs⟩:=p
  obtain ⟨b,o,rfl,hb,hfl⟩:=hp.flows.at hi
  simp only at hi hfl ⊢
  obtain ⟨f,hf⟩:∃ f,flows[i] = f:=⟨_,rfl⟩
  rw [hf] at hfl ⊢
  obtain ⟨nm,⟨k2,nm2,n2,d2,args2,a2⟩,fa⟩:=f
  obtain ⟨ad2,cap2,y0,y1,y2,y3,y4,y5,y6,y7,hae,hfn⟩:=hfl.cells
  have HAE:=hid hae
  have hi0:(0:Int) ≤ (i:Int):=by omega
  have hi1:(i:Int) < (flows.length:Int):=by omega
  have HI2:=hid hi2
  unfold pv spv
  simp only
  clear hp hfl hae hf hi2 hfn y0 y7
  have hsl:=hl.size
  have HL:=hid hl
  clear hl
  go_enter Tryz.func60,Tryz.ntmps60
  go_wp2
  obtain ⟨W2,hW2⟩:∃ W2,(w.alloc (.cells #[.slice an nodes.length cn,.slice ai ins.length ci,.slice (some ⟨b,o,none⟩) flows.length cf,.slice ao outs.length co] 27)).alloc (.cells #[.int .i64 0,.string ⟨#[]⟩,.int .i64 0,.int .i64 0,.slice none 0 0,.int .i64 0,.string ⟨#[]⟩] 121) = W2:=⟨_,rfl⟩
  rw [hW2]
  have hB:Below w.heap.size w W2:=by rw [← hW2];exact bq
  have hb0:W2.heap[w.heap.size]? = some (.cells #[.slice an nodes.length cn,.slice ai ins.length ci,.slice (some ⟨b,o,none⟩) flows.length cf,.slice ao outs.length co] 27 (0,0)):=by rw [← hW2];exact (Below.heap_alloc _ _ _ (by simp)).trans (heap_new w _)
  have hb1:W2.heap[w.heap.size + 1]? = some (.cells #[.int .i64 0,.string ⟨#[]⟩,.int .i64 0,.int .i64 0,.slice none 0 0,.int .i64 0,.string ⟨#[]⟩] 121 (0,0)):=by rw [← hW2];simpa using heap_new (w.alloc _) _
  obtain ⟨⟨_,_,s2,_⟩,_⟩:=cells4 hb0
  obtain ⟨⟨z0,z1,z2,z3,z4,z5,z6⟩,zf⟩:=cells7s hb1
  have hcb:=fun o => (hB.cell (p:=⟨b,o,none⟩) (Nat.lt_of_lt_of_le hb hsl)).trans (HL.out.cell (p:=⟨b,o,none⟩) hb)
  have HB:=hid hB
  have KA:=hid (show SF w.heap.size b (o + i * 8) (.slice (some ⟨b,o,none⟩) flows.length cf) k2 nm2 n2 d2 args2.len cap2 ad2 a2 W2 from ⟨s2,(hcb _).trans y1,(hcb _).trans y2,(hcb _).trans y3,(hcb _).trans y4,(hcb _).trans y5,(hcb _).trans y6⟩)
  have hne:¬ w.heap.size = w.heap.size + 1:=by omega
  have hne2:¬ b = w.heap.size + 1:=by omega
  clear hW2 hB hb0 hb1 s2 y1 y2 y3 y4 y5 y6 hcb
  go_region_held3 (fun w' => w'.cell? ⟨w.heap.size,2,none⟩ = some (.slice (some ⟨b,o,none⟩) flows.length cf) ∧ w'.cell? ⟨b,o + i * 8 + 1,none⟩ = some (.int .i64 k2) ∧ w'.cell? ⟨b,o + i * 8 + 2,none⟩ = some (.string nm2) ∧ w'.cell? ⟨b,o + i * 8 + 3,none⟩ = some (.int .i64 n2) ∧ w'.cell? ⟨b,o + i * 8 + 4,none⟩ = some (.int .i64 d2) ∧ w'.cell? ⟨b,o + i * 8 + 5,none⟩ = some (.slice ad2 args2.len cap2) ∧ w'.cell? ⟨b,o + i * 8 + 6,none⟩ = some (.int .i64 a2)) ((show SF w.heap.size b (o + i * 8) (.slice (some ⟨b,o,none⟩) flows.length cf) k2 nm2 n2 d2 args2.len cap2 ad2 a2 _;repeat (first | with_reducible exact KA.out | with_reducible refine SF.drew ?_ | (with_reducible refine SF.set ?_ hne hne2 _)))) (first | (go_at_call 81;refine (itoa_any HI2.out _).mono ?_;rintro x w1 ⟨rfl,rfl⟩))
  all_goals
    go_wp2
    refine bodyPost_ret (v:=spv ⟨k2,nm2,n2,d2,args2,a2⟩ ad2 cap2 (dg i)) ?_ rfl ?_
    · simp only [results,Tryz.results60,spv]
      go_simp
    · exact ⟨⟨ad2,cap2,rfl,HAE.out⟩,bq⟩
theorem shaped_any {w:World} (e:PE) (ad:Option Addr) (cap:Nat) (h:exprOK e = true):Calls Tryz.prog 61 #[ev e ad cap] w fun x w' => x = .returned (.bool true) ∧ Below w.heap.size w w':=by
  obtain ⟨h1,h2,h3⟩:=ex_call h
  obtain ⟨k,nm,n,d,args,a⟩:=e
  unfold ev
  simp only at h1 h2 h3 ⊢
  clear h
  by_cases hk:k = 1
  · subst hk
    have h1:=h1 rfl
    clear h2 h3
    rw [h1]
    go_enter Tryz.func61,Tryz.ntmps61
    go_wp2
    go_ret
    exact ⟨rfl,bq⟩
  · have hk1:(k == 1) = false:=beq_eq_false_iff_ne.2 hk
    by_cases hk2:k = 2
    · subst hk2
      have h2:decide (0 < args.len) = true:=decide_eq_true (by have:=h2 rfl;omega)
      clear h1 h3
      go_enter Tryz.func61,Tryz.ntmps61
      go_wp2
      go_ret
      exact ⟨rfl,bq⟩
    · have hk3:(k == 2) = false:=beq_eq_false_iff_ne.2 hk2
      have h3:=h3 hk hk2
      clear h1 h2 hk hk2
      rw [h3]
      go_enter Tryz.func61,Tryz.ntmps61
      go_wp2
      go_ret
      exact ⟨rfl,bq⟩
theorem fwithin_any {w:World} (e:PE) (ad:Option Addr) (cap:Nat) (way:ByteArray):Calls Tryz.prog 59 #[spv e ad cap way] w fun x w' => x = .returned (.func (.func 79) #[] #[.pointer (some ⟨w.heap.size,0,none⟩)]) ∧ w' = w.alloc (.cells #[.int .i64 e.k,.string e.nm,.int .i64 e.n,.int .i64 e.d,.slice ad e.args.len cap,.int .i64 e.a,.string way] 121):=by
  unfold spv
  go_enter Tryz.func59,Tryz.ntmps59
  go_wp2
  go_ret
  exact ⟨rfl,rfl⟩
theorem inputClock_any {w:World} (nm:ByteArray) (per ph a:Int):Calls Tryz.prog 62 #[.agg #[.string nm,.int .i64 per,.int .i64 ph,.int .i64 a]] w fun x w' => x = .returned (.agg #[.int .i64 per,.int .i64 ph]) ∧ Below w.heap.size w w':=by
  go_enter Tryz.func62,Tryz.ntmps62
  go_wp2
  refine bodyPost_ret (v:=.agg #[.int .i64 per,.int .i64 ph]) ?_ rfl ?_
  · simp only [results,Tryz.results62]
    go_simp
  · exact ⟨rfl,bq⟩
theorem operator_any {w:World} (e:PE) (ad:Option Addr) (cap:Nat):Calls Tryz.prog 85 #[ev e ad cap] w fun x w' => x = .returned (.agg #[.int .i64 e.k,.int .i64 e.n,.int .i64 e.d]) ∧ Below w.heap.size w w':=by
  unfold ev
  go_enter Tryz.func85,Tryz.ntmps85
  go_wp2
  refine bodyPost_ret (v:=.agg #[.int .i64 e.k,.int .i64 e.n,.int .i64 e.d]) ?_ rfl ?_
  · simp only [results,Tryz.results85]
    go_simp
  · exact ⟨rfl,bq⟩
attribute [local go_sem] Oper.semAt_some
def spotsL:PL → ByteArray → Nat → List (PE × ByteArray)
  | .nil,_,_ => []
  | .cons k nm n d args a tl,w,i => (⟨k,nm,n,d,args,a⟩,w ++ ⟨#[47]⟩ ++ dg i) :: (spotsL args (w ++ ⟨#[47]⟩ ++ dg i) 0 ++ spotsL tl w (i + 1))
def spotsE (e:PE) (w:ByteArray):List (PE × ByteArray):=(e,w) :: spotsL e.args w 0
theorem spotsL_sz:∀ (l:PL) (w:ByteArray) (i:Nat),(spotsL l w i).length = l.sz:=by
  intro l
  induction l with
  | nil => intro w i;rfl
  | cons k nm n d args a tl ih1 ih2 => intro w i;simp only [spotsL,List.length_cons,List.length_append,ih1,ih2,PL.sz];omega
structure SpOK (W0:World) (e:PE) (ad:Option Addr) (cap:Nat) (way:ByteArray):Prop where
  mem:AE W0 e ad cap
  good:exprOK e = true
  short:way.size + 3 * e.args.sz ≤ 500
  few:e.args.sz < 100
structure VS (W0:World) where
  s:PE × ByteArray
  ad:Option Addr
  cap:Nat
  ok:SpOK W0 s.1 ad cap s.2
def VS.vs {W0:World} (x:VS W0):Array Value:=#[.agg #[.int .i64 x.s.1.k,.string x.s.1.nm,.int .i64 x.s.1.n,.int .i64 x.s.1.d,.slice x.ad x.s.1.args.len x.cap,.int .i64 x.s.1.a,.string x.s.2]]
def ArgIn (F:Fence) (W0:World):Prop:=∀ (n:Nat) (W:World) (e c:PE) (ad:Option Addr) (cap:Nat) (way:ByteArray) (i:Nat),Below W0.heap.size W0 W → SpOK W0 e ad cap way → e.args.at i = some c →
  CallsIn F n Tryz.prog 65 #[spv e ad cap way,.int .i64 (i:Int)] W fun x w' => (∃ ad2 cap2,x = .returned (spv c ad2 cap2 (way ++ ⟨#[47]⟩ ++ dg i)) ∧ SpOK W0 c ad2 cap2 (way ++ ⟨#[47]⟩ ++ dg i)) ∧ Below W.heap.size W w'
theorem at_lt:∀ (l:PL) (i:Nat) (e:PE),l.at i = some e → i < l.len ∧ e.args.sz + 1 ≤ l.sz
  | .cons k nm n d args a tl,0,e,h => by
    injection h with h;subst h
    simp only [PL.len,PL.sz]
    omega
  | .cons _ _ _ _ args _ tl,i + 1,e,h => by
    have:=at_lt tl i e h
    simp only [PL.len,PL.sz]
    omega
theorem argCall_any {W0 w:World} (hl:Below W0.heap.size W0 w) (e c:PE) (ad:Option Addr) (cap:Nat) (way:ByteArray) (i:Nat) (h:SpOK W0 e ad cap way) (hc:e.args.at i = some c) :
    Calls Tryz.prog 65 #[spv e ad cap way,.int .i64 (i:Int)] w fun x w' => (∃ ad2 cap2,x = .returned (spv c ad2 cap2 (way ++ ⟨#[47]⟩ ++ dg i)) ∧ SpOK W0 c ad2 cap2 (way ++ ⟨#[47]⟩ ++ dg i)) ∧ Below w.heap.size w w':=by
  obtain ⟨h1,h2⟩:=at_lt _ _ _ hc
  have h3:=len_le_sz e.args
  have h4:=h.few
  have h5:=h.short
  have h6:=dg_size (i:=i) oq
  refine (arg_any hl e c ad cap way i h.mem hc h1 oq oq).mono ?_
  rintro x w' ⟨⟨ad2,cap2,hx,hae⟩,hb⟩
  refine ⟨⟨ad2,cap2,hx,⟨hae,ex_child h.good hc,?_,by omega⟩⟩,hb⟩
  have h7:(way ++ (⟨#[47]⟩:ByteArray) ++ dg i).size = way.size + 1 + (dg i).size:=by
    rw [ByteArray.size_append,ByteArray.size_append];rfl
  omega
theorem argIn_wide (W0:World):ArgIn Fence.wide W0:=fun n W e c ad cap way i hl h hc => callsIn_wide.2 (argCall_any hl e c ad cap way i h hc)
theorem abide_below {β:Type} {B:Nat} {J:β → World → Prop} (h:AbidesFrom B J) {s:β} {W W':World} (hs:J s W) (hb:Below W.heap.size W W'):J s W' :=
  h s W _ none hs ⟨hb.os,hb.tape,hb.output,hb.size,fun k hk _ => hb.block k hk⟩ (fun r e => by cases e)
def kept (o:Obj):Bool:=match o with
  | .cells _ t _ => t != 56
  | _ => false
theorem kept_cells {o:Obj} (h:kept o = true):o.isCells = true:=by
  cases o <;> first | rfl | exact Bool.noConfusion h
structure KF (n₀ Bk:Nat) (W W':World):Prop where
  below:Below n₀ W W'
  same:∀ (k:Nat) (o:Obj),Bk ≤ k → W.heap[k]? = some o → kept o = true → W'.heap[k]? = some o
theorem KF.refl (n₀ Bk:Nat) (W:World):KF n₀ Bk W W:=⟨Below.refl _ _,fun _ _ _ h _ => h⟩
theorem KF.trans {n₀ Bk:Nat} {A B C:World} (h:KF n₀ Bk A B) (k:KF n₀ Bk B C):KF n₀ Bk A C:=⟨h.below.trans k.below,fun i o hb hi ho => k.same i o hb (h.same i o hb hi ho) ho⟩
theorem KF.of_below {n₀ Bk:Nat} {A W W':World} (h:KF n₀ Bk A W) (hb:Below W.heap.size W W') (hn:n₀ ≤ W.heap.size):KF n₀ Bk A W' :=
  h.trans ⟨hb.mono hn,fun k o _ hk _ => (hb.block k (lt_of_block hk)).trans hk⟩
theorem KF.alloc {n₀ Bk:Nat} {A W:World} (h:KF n₀ Bk A W) (hn:n₀ ≤ W.heap.size) (o:Obj):KF n₀ Bk A (W.alloc o):=h.of_below ((Below.refl _ _).alloc (Nat.le_refl _) _) hn
theorem KC.kf {n₀:Nat} {A B:World} (h:KC n₀ A B) (Bk:Nat):KF n₀ Bk A B:=⟨h.below,fun k o _ hk ho => h.same k o hk (kept_cells ho)⟩
theorem KF.putObj {n₀ Bk:Nat} (W:World) (l:Nat) (o o':Obj) (hl:n₀ ≤ l) (h:W.heap[l]? = some o) (hc:o.isCells = false):KF n₀ Bk W (W.putObj l o'):=(KC.putObj W l o o' hl h hc).kf Bk
def VSAns {W0:World} (n₀ Bk:Nat) (J Jx:List (VS W0) → World → Prop) (pre:List (VS W0)) (e:PE) (way:ByteArray) (W:World) (x:Ending) (W':World):Prop :=
  (x = .returned (.bool true) ∧ (∃ ys:List (VS W0),ys.map (·.s) = spotsE e way ∧ J (pre ++ ys) W') ∧ KF n₀ Bk W W') ∨
    (x = .returned (.bool false) ∧ ∃ q:List (VS W0),q.map (·.s) <+: spotsE e way ∧ Jx (pre ++ q) W')
def VSRel {W0:World} (n₀ Bk:Nat) (J:List (VS W0) → World → Prop) (pre:List (VS W0)) (e:PE) (way:ByteArray) (W:World) (v:Value) (wr:World):Prop :=
  ∃ (i:Nat) (rest:PL) (ys:List (VS W0)),v = .int .i64 (i:Int) ∧ i + rest.len = e.args.len ∧ (∀ j,rest.at j = e.args.at (i + j)) ∧ rest.sz ≤ e.args.sz ∧ ys.map (·.s) ++ spotsL rest way i = spotsE e way ∧ J (pre ++ ys) wr ∧ KF n₀ Bk W wr
theorem at_tail {k n d a:Int} {nm:ByteArray} {args tl l:PL} {i:Nat} (h:∀ j,(PL.cons k nm n d args a tl).at j = l.at (i + j)):∀ j,tl.at j = l.at (i + 1 + j):=fun j => by
  have:=h (j + 1)
  rw [show i + 1 + j = i + (j + 1) by omega,← this]
  rfl
set_option maxRecDepth 100000 in
set_option maxHeartbeats 4000000 in
theorem visitS_step {W0:World} (F:Fence) (hd:F.depth = none) (hF:F.fn 80) (hA:F.fn 65) (hro:F.round = none) (hAI:ArgIn F W0) (l B Bk N:Nat) (J Jx:List (VS W0) → World → Prop) (hJ:AbidesFrom B J)
    (hY:∀ m pre x W,J pre W → pre.length < N → YieldAt F m Tryz.prog l x.vs W fun e W' => (e = .returned (.bool true) ∧ J (pre ++ [x]) W' ∧ KF W0.heap.size Bk W W') ∨ (e = .returned (.bool false) ∧ Jx (pre ++ [x]) W')) (e:PE)
    (ih:∀ e':PE,e'.args.sz < e.args.sz → ∀ (n:Nat) (ad:Option Addr) (cap:Nat) (way:ByteArray) (pre:List (VS W0)) (W:World),SpOK W0 e' ad cap way → Below W0.heap.size W0 W → Bk ≤ W.heap.size → J pre W → pre.length + e'.args.sz + 1 ≤ N →
      CallsIn F n Tryz.prog 80 #[spv e' ad cap way,.func (.yield l) #[] #[]] W (VSAns W0.heap.size Bk J Jx pre e' way W)) :
    ∀ (n:Nat) (ad:Option Addr) (cap:Nat) (way:ByteArray) (pre:List (VS W0)) (W:World),SpOK W0 e ad cap way → Below W0.heap.size W0 W → Bk ≤ W.heap.size → J pre W → pre.length + e.args.sz + 1 ≤ N →
      CallsIn F n Tryz.prog 80 #[spv e ad cap way,.func (.yield l) #[] #[]] W (VSAns W0.heap.size Bk J Jx pre e way W):=by
  intro n ad cap way pre W hae hb hBk hj hN
  obtain ⟨k,nm,nn,d,args,a⟩:=e
  have hlen:=hae.mem.len
  simp only at hlen hN ih ⊢
  have hdd:∀ k:Nat,(F.depth.isSome = true → 1 ≤ k):=fun k h => by rw [hd] at h;cases h
  have hsz0:=hb.size
  obtain ⟨X,hX1,hX2⟩:∃ X:VS W0,X.vs = #[.agg #[.int .i64 k,.string nm,.int .i64 nn,.int .i64 d,.slice ad args.len cap,.int .i64 a,.string way]] ∧ X.s = (⟨k,nm,nn,d,args,a⟩,way):=⟨⟨(⟨k,nm,nn,d,args,a⟩,way),ad,cap,hae⟩,rfl,rfl⟩
  obtain ⟨fn,tmps,assign,body,hy,hR⟩:=hY (n - 1) pre X (W.alloc (Obj.cells #[.int .i64 k,.string nm,.int .i64 nn,.int .i64 d,.slice ad args.len cap,.int .i64 a,.string way] 121)) (abide_alloc hJ hj _) oq
  rw [hX1] at hy
  have HX2:=hid hX2
  have HA:=hid hae
  have HB:=hid hb
  have HIH:=hid ih
  have HR:=hid hR
  have HAI:=hid hAI
  clear hX1 hX2 hae hb ih hR hj hAI
  unfold spv at *
  simp only at *
  refine callsIn_of_wp Tryz.func80 rfl hF ?_ hro
  simp only [Tryz.ntmps80,List.size_toArray,List.length_cons,List.length_nil,Nat.reduceAdd,Nat.reduceSub,Array.replicate_succ,Array.replicate_zero,List.push_toArray,List.append_toArray,List.nil_append,List.cons_append]
  gi_wp2
  refine HR.out.mono ?_
  rintro e W1 (⟨rfl,hJ1,hk1⟩ | ⟨rfl,hJx⟩)
  · have hbox:=hk1.same W.heap.size _ hBk (heap_new W _) rfl
    obtain ⟨⟨x0,x1,x2,x3,x4,x5,x6⟩,xf⟩:=cells7s hbox
    have HJ1:=hid hJ1
    have HK1:=hid ((KF.refl W0.heap.size Bk W).alloc hsz0 _ |>.trans hk1)
    have HBX:=hid hbox
    clear hJ1 hk1 hbox
    gi_wp2
    gi_loopw [14] (fun v wr => Hid (VSRel W0.heap.size Bk J pre ⟨k,nm,nn,d,args,a⟩ way W1 v wr)) (fun i _ => args.len - (intOf i).toNat)
    case atStart => exact ⟨0,args,[X],rfl,by simp,by simp,Nat.le_refl _,by simp only [List.map_cons,List.map_nil,List.singleton_append,HX2.out,spotsE],HJ1.out,KF.refl _ _ _⟩
    case round =>
      obtain ⟨i,rest,ys,rfl,hil,hat,hsub,hys,hj2,hk2⟩:=hrel.out
      clear hrel
      have HK2:=hid hk2
      have HJ2:=hid hj2
      simp only at hil hat hsub
      have hbw:Below W0.heap.size W0 wr:=HB.out.trans (HK1.out.below.trans hk2.below)
      have hbox:=hk2.same W.heap.size _ hBk HBX.out rfl
      have hBr:Bk ≤ wr.heap.size:=Nat.le_trans hBk (HK1.out.below.trans hk2.below).size
      have HBW:=hid hbw
      have HAT:=hid hat
      have hszw:=hbw.size
      clear hk2 hj2 hbw hat
      cases rest with
      | nil =>
        have hil':(i:Int) = (args.len:Int):=by simp only [PL.len] at hil;omega
        simp only [spotsL,List.append_nil] at hys
        have HYS:=hid hys
        clear hys
        gi_wp2
        go_ret
        exact .inl ⟨rfl,⟨ys,HYS.out,HJ2.out⟩,HK1.out.trans HK2.out⟩
      | cons k1 nm1 n1 d1 args1 a1 tl =>
        have hil':(i:Int) < (args.len:Int):=by simp only [PL.len] at hil;omega
        obtain ⟨⟨x0,x1,x2,x3,x4,x5,x6⟩,xf⟩:=cells7s hbox
        have h0:=HAT.out 0
        have hlys:=congrArg List.length hys
        simp only [List.length_append,List.length_map,spotsL_sz,List.length_cons,PL.sz,spotsE] at hlys hsub
        have HARG:=hid (HAI.out (n - 1) wr ⟨k,nm,nn,d,args,a⟩ ⟨k1,nm1,n1,d1,args1,a1⟩ ad cap way i HBW.out HA.out h0.symm)
        have HC:=hid (fun w1 (hb1:Below wr.heap.size wr w1) ad1 cap1 (hsp:SpOK W0 ⟨k1,nm1,n1,d1,args1,a1⟩ ad1 cap1 (way ++ ⟨#[47]⟩ ++ dg i)) => HIH.out ⟨k1,nm1,n1,d1,args1,a1⟩ (by show args1.sz < args.sz;omega) (n - 1) ad1 cap1 (way ++ ⟨#[47]⟩ ++ dg i) (pre ++ ys) w1 hsp (HBW.out.trans (hb1.mono hszw)) (Nat.le_trans hBr hb1.size) (abide_below hJ HJ2.out hb1) (by simp only [List.length_append];omega))
        have HYS:=hid hys
        clear h0 hys hlys hbox
        gi_wp2_with ((try refine ⟨hdd _,?_⟩);first | (gi_at_call 65;refine HARG.out.mono ?_;rintro x w1 ⟨⟨ad1,cap1,rfl,hsp⟩,hb1⟩;unfold spv;simp only) | (gi_at_call 80;refine (HC.out _ hb1 _ _ hsp).mono ?_;rintro x w2 (⟨rfl,⟨zs,hzs,hj3⟩,hk3⟩ | ⟨rfl,q,hq,hjx⟩)))
        · go_roundw
          case rel => exact ⟨i + 1,tl,ys ++ zs,by go_num,by simp only [PL.len] at hil;show i + 1 + tl.len = args.len;omega,at_tail HAT.out,by show tl.sz ≤ args.sz;omega,by rw [List.map_append,hzs,← HYS.out,spotsL,spotsE];simp,by rw [← List.append_assoc];exact hj3,(HK2.out.of_below hb1 hszw).trans hk3⟩
          case measure => simp [intOf];omega
        · go_ret
          refine .inr ⟨rfl,ys ++ q,?_,by rw [← List.append_assoc];exact hjx⟩
          obtain ⟨r,hr⟩:=hq
          refine ⟨r ++ spotsL tl way (i + 1),?_⟩
          rw [List.map_append,← HYS.out,spotsL,← List.cons_append]
          unfold spotsE at hr
          rw [← hr]
          simp
  · gi_wp2
    go_ret
    exact .inr ⟨rfl,[X],⟨spotsL args way 0,by simp only [List.map_cons,List.map_nil,List.singleton_append,HX2.out,spotsE]⟩,hJx⟩
theorem visitS_any {W0:World} (F:Fence) (hd:F.depth = none) (hF:F.fn 80) (hA:F.fn 65) (hro:F.round = none) (hAI:ArgIn F W0) (l B Bk N:Nat) (J Jx:List (VS W0) → World → Prop) (hJ:AbidesFrom B J)
    (hY:∀ m pre x W,J pre W → pre.length < N → YieldAt F m Tryz.prog l x.vs W fun e W' => (e = .returned (.bool true) ∧ J (pre ++ [x]) W' ∧ KF W0.heap.size Bk W W') ∨ (e = .returned (.bool false) ∧ Jx (pre ++ [x]) W')) :
    ∀ (e:PE) (n:Nat) (ad:Option Addr) (cap:Nat) (way:ByteArray) (pre:List (VS W0)) (W:World),SpOK W0 e ad cap way → Below W0.heap.size W0 W → Bk ≤ W.heap.size → J pre W → pre.length + e.args.sz + 1 ≤ N →
      CallsIn F n Tryz.prog 80 #[spv e ad cap way,.func (.yield l) #[] #[]] W (VSAns W0.heap.size Bk J Jx pre e way W):=by
  intro e
  suffices h:∀ (M:Nat) (e:PE),e.args.sz < M → ∀ (n:Nat) (ad:Option Addr) (cap:Nat) (way:ByteArray) (pre:List (VS W0)) (W:World),SpOK W0 e ad cap way → Below W0.heap.size W0 W → Bk ≤ W.heap.size → J pre W → pre.length + e.args.sz + 1 ≤ N →
      CallsIn F n Tryz.prog 80 #[spv e ad cap way,.func (.yield l) #[] #[]] W (VSAns W0.heap.size Bk J Jx pre e way W) from h _ e (Nat.lt_succ_self _)
  intro M
  induction M with
  | zero => intro e h;omega
  | succ M ih => intro e h;exact visitS_step F hd hF hA hro hAI l B Bk N J Jx hJ hY e (fun e' h' => ih e' oq)
set_option maxRecDepth 100000 in
set_option maxHeartbeats 4000000 in
theorem fwithin1_in {W0:World} (F:Fence) (hd:F.depth = none) (hG:F.fn 79) (hF:F.fn 80) (hA:F.fn 65) (hro:F.round = none) (hAI:ArgIn F W0) (n l B Bk Bs:Nat) (e:PE) (ad:Option Addr) (cap:Nat) (way:ByteArray)
    (hs:SpOK W0 e ad cap way) (J Jx:List (VS W0) → World → Prop) (hJ:AbidesFrom B J)
    (hY:∀ m pre x W,J pre W → pre.length < e.args.sz + 1 → YieldAt F m Tryz.prog l x.vs W fun e W' => (e = .returned (.bool true) ∧ J (pre ++ [x]) W' ∧ KF W0.heap.size Bk W W') ∨ (e = .returned (.bool false) ∧ Jx (pre ++ [x]) W'))
    (W:World) (hB:Below W0.heap.size W0 W) (hBk:Bk ≤ W.heap.size) (hbx:W.heap[Bs]? = some (.cells #[.int .i64 e.k,.string e.nm,.int .i64 e.n,.int .i64 e.d,.slice ad e.args.len cap,.int .i64 e.a,.string way] 121 (0,0))) (h0:J [] W) :
    CallsIn F n Tryz.prog 79 #[.func (.yield l) #[] #[],.pointer (some ⟨Bs,0,none⟩)] W fun x W' => (∃ v,x = .returned v) ∧
      ((∃ xs:List (VS W0),xs.map (·.s) = spotsE e way ∧ J xs W') ∨ (∃ pre:List (VS W0),pre.map (·.s) <+: spotsE e way ∧ Jx pre W')):=by
  have hdd:∀ k:Nat,(F.depth.isSome = true → 1 ≤ k):=fun k h => by rw [hd] at h;cases h
  have HC:=hid (visitS_any F hd hF hA hro hAI l B Bk (e.args.sz + 1) J Jx hJ hY e (n - 1) ad cap way [] W hs hB hBk h0 (by simp))
  obtain ⟨⟨x0,x1,x2,x3,x4,x5,x6⟩,xf⟩:=cells7s hbx
  clear hY hB h0 hAI hs hbx
  unfold spv at HC
  refine callsIn_of_wp Tryz.func79 rfl hG ?_ hro
  simp only [Tryz.ntmps79,List.size_toArray,List.length_cons,List.length_nil,Nat.reduceAdd,Nat.reduceSub,Array.replicate_succ,Array.replicate_zero,List.push_toArray,List.append_toArray,List.nil_append,List.cons_append]
  gi_wp2_with ((try refine ⟨hdd _,?_⟩);gi_at_call 80;refine HC.out.mono ?_;rintro x w2 (⟨rfl,⟨zs,hzs,hj3⟩,hk3⟩ | ⟨rfl,q,hq,hjx⟩))
  · go_end0
    exact ⟨⟨_,rfl⟩,.inl ⟨zs,hzs,by simpa using hj3⟩⟩
  · go_end0
    exact ⟨⟨_,rfl⟩,.inr ⟨q,hq,by simpa using hjx⟩⟩
theorem fwithin_stops {W0:World} (F:Fence) (hd:F.depth = none) (hG:F.fn 79) (hF:F.fn 80) (hA:F.fn 65) (hro:F.round = none) (hAI:ArgIn F W0) (n Bs:Nat) (e:PE) (ad:Option Addr) (cap:Nat) (way:ByteArray)
    (hs:SpOK W0 e ad cap way) (w:World) (Bk:Nat) (hBk:Bk ≤ w.heap.size) (hB:Below W0.heap.size W0 w) (hbx:w.heap[Bs]? = some (.cells #[.int .i64 e.k,.string e.nm,.int .i64 e.n,.int .i64 e.d,.slice ad e.args.len cap,.int .i64 e.a,.string way] 121 (0,0))) :
    SeqStopsK F n Tryz.prog 79 #[.pointer (some ⟨Bs,0,none⟩)] (fun x:VS W0 => x.vs) (KF W0.heap.size Bk) (fun xs => xs.map (·.s) = spotsE e way) (fun pre => pre.map (·.s) <+: spotsE e way) (e.args.sz + 1) w:=fun l J Jx W hW hJ hJx hY h0 =>
  fwithin1_in F hd hG hF hA hro hAI n l W.heap.size Bk Bs e ad cap way hs J Jx hJ (fun m pre x W hj hl => YieldAt.deep hd m (hY pre x W hj hl)) W (hB.trans (hW.mono hB.size)) (Nat.le_trans hBk hW.size) ((hW.block Bs (lt_of_block hbx)).trans hbx) h0
def CkAt (w:World) (b:Nat) (l:List (Int × Int)):Prop:=∀ i (h:i < l.length),w.cell? ⟨b,i * 2,none⟩ = some (.int .i64 l[i].1) ∧ w.cell? ⟨b,i * 2 + 1,none⟩ = some (.int .i64 l[i].2)
def EqRel (w W:World) (l1 l2:List (Int × Int)) (v:Value) (wr:World):Prop :=
  ∃ i:Nat,v = .int .i64 (i:Int) ∧ i ≤ l1.length ∧ l1.take i = l2.take i ∧ Below w.heap.size w wr
set_option maxRecDepth 100000 in
set_option maxHeartbeats 4000000 in
theorem equalClocks_any {w:World} (l1 l2:List (Int × Int)) (b1 b2:Nat) (hb1:b1 < w.heap.size) (hb2:b2 < w.heap.size) (h1:CkAt w b1 l1) (h2:CkAt w b2 l2) (hl:l1.length ≤ 1000) (hl2:l2.length ≤ 1000) :
    Calls Tryz.prog 58 #[.slice (some ⟨b1,0,none⟩) l1.length l1.length,.slice (some ⟨b2,0,none⟩) l2.length l2.length] w fun x w' => x = .returned (.bool (decide (l1 = l2))) ∧ Below w.heap.size w w':=by
  have H1:=hid h1
  have H2:=hid h2
  clear h1 h2
  go_enter Tryz.func58,Tryz.ntmps58
  by_cases hne:l1.length = l2.length
  · have hq:((l1.length:Int) != (l2.length:Int)) = false:=by simp [hne]
    go_wp2
    go_loopw [13] (fun v wr => Hid (EqRel w w l1 l2 v wr)) (fun i _ => l1.length - (intOf i).toNat)
    case atStart => exact ⟨0,rfl,Nat.zero_le _,rfl,Below.refl _ _⟩
    case round =>
      obtain ⟨i,rfl,hi,htk,hB⟩:=hrel.out
      clear hrel
      by_cases hlt:i < l1.length
      · have hlt':(i:Int) < (l1.length:Int):=by omega
        have hlt2:(i:Int) < (l2.length:Int):=by omega
        have hi2:i < l2.length:=by omega
        obtain ⟨c1,d1⟩:=H1.out i hlt
        obtain ⟨c2,d2⟩:=H2.out i hi2
        have g1:wr.cell? ⟨b1,i * 2,none⟩ = _:=(hB.cell (p:=⟨b1,i * 2,none⟩) hb1).trans c1
        have g2:wr.cell? ⟨b1,i * 2 + 1,none⟩ = _:=(hB.cell (p:=⟨b1,i * 2 + 1,none⟩) hb1).trans d1
        have g3:wr.cell? ⟨b2,i * 2,none⟩ = _:=(hB.cell (p:=⟨b2,i * 2,none⟩) hb2).trans c2
        have g4:wr.cell? ⟨b2,i * 2 + 1,none⟩ = _:=(hB.cell (p:=⟨b2,i * 2 + 1,none⟩) hb2).trans d2
        obtain ⟨⟨p1,q1⟩,hp1⟩:∃ c,l1[i] = c:=⟨_,rfl⟩
        obtain ⟨⟨p2,q2⟩,hp2⟩:∃ c,l2[i] = c:=⟨_,rfl⟩
        rw [hp1] at g1 g2
        rw [hp2] at g3 g4
        simp only at g1 g2 g3 g4
        have HP1:=hid hp1
        have HP2:=hid hp2
        have HTK:=hid htk
        have HB:=hid hB
        clear c1 d1 c2 d2 hp1 hp2 htk hB
        by_cases hcc:p1 = p2 ∧ q1 = q2
        · obtain ⟨e1,e2⟩:=hcc
          subst e1 e2
          have hq2:=fun w => eq_clock p1 q1 p1 q1 w
          simp only [and_self,decide_true] at hq2
          have HT2:=hid (show l1.take (i + 1) = l2.take (i + 1) by
            rw [List.take_succ_eq_append_getElem hlt,List.take_succ_eq_append_getElem hi2,HTK.out,HP1.out,HP2.out])
          go_wp2
          go_quiet (fail)
          go_wp2
          exact ⟨⟨i + 1,by go_num,by omega,HT2.out,bq⟩,by simp [intOf];omega⟩
        · have HD:=hid (show decide (l1 = l2) = false from decide_eq_false (fun e => hcc (by
            subst e
            have:=HP1.out.symm.trans HP2.out
            injection this with h1 h2
            exact ⟨h1,h2⟩)))
          by_cases he:p1 = p2
          · subst he
            have he2:¬ q1 = q2:=fun e => hcc ⟨rfl,e⟩
            have hq2:=fun w => eq_clock p1 q1 p1 q2 w
            simp only [true_and,decide_eq_false he2] at hq2
            clear hcc
            go_wp2
            go_quiet (fail)
            go_wp2
            go_ret
            exact ⟨by rw [HD.out];rfl,bq⟩
          · have hq2:=fun w => eq_clock p1 q1 p2 q2 w
            simp only [he,false_and,decide_false] at hq2
            clear hcc
            go_wp2
            go_quiet (fail)
            go_wp2
            go_ret
            exact ⟨by rw [HD.out];rfl,bq⟩
      · have hi':i = l1.length:=by omega
        have heq:l1 = l2:=by
          subst hi'
          rw [List.take_length,hne,List.take_length] at htk
          exact htk
        have hlt':¬ (i:Int) < (l1.length:Int):=by omega
        have HE:=hid heq
        have HB:=hid hB
        clear heq hB htk
        go_wp2
        go_ret
        exact ⟨by rw [decide_eq_true HE.out];rfl,HB.out⟩
  · have hq:((l1.length:Int) != (l2.length:Int)) = true:=by
      rw [bne_iff_ne];omega
    have hd:decide (l1 = l2) = false:=decide_eq_false (fun e => hne (by rw [e]))
    rw [hd]
    go_wp2
    go_ret
    exact ⟨rfl,bq⟩
end Go.Proofs.YteaiemfhlpoieaaGreatDoor.syn
