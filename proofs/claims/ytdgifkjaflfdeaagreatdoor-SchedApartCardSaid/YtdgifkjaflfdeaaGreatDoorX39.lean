/- Parts of the proof. -/
import Derived.Test.YtdgifkjaflfdeaaGreatDoorX27
set_option linter.all false
set_option maxRecDepth 100000
set_option maxHeartbeats 16000000
namespace Go.Proofs.YtdgifkjaflfdeaaGreatDoor.syn
open Tryz
open Go.RowKit
variable {w w':World}{b B:Nat}{js v f:Value}
theorem Zgo : (prog.info? 218).bind (fun i => i.methods.find? (·.name == "Len")) = some ⟨"Len", 204, #[], some (115, true)⟩ := by kernel_rfl
theorem ZeP : (prog.info? 218).bind (fun i => i.methods.find? (·.name == "Less")) = some ⟨"Less", 352, #[], some (293, true)⟩ := by kernel_rfl
theorem ZeR : (prog.info? 218).bind (fun i => i.methods.find? (·.name == "Swap")) = some ⟨"Swap", 302, #[], some (296, true)⟩ := by kernel_rfl
theorem Zgp : (prog.info? 218).bind (fun i => i.methods.find? (·.name == "Pop")) = some ⟨"Pop", 304, #[], some (294, true)⟩ := by kernel_rfl
theorem ZeQ : (prog.info? 218).bind (fun i => i.methods.find? (·.name == "Push")) = some ⟨"Push", 300, #[], some (295, true)⟩ := by kernel_rfl
theorem Vb:prog.underlying 218=some (.pointer 220):=by kernel_rfl
theorem Zfg (n : Nat) (w : World) (a : Addr) : Sem.run prog (method (n + 1) 218 (.pointer (some a)) "Len") w = .ok (115, .pointer (some a)) w := Vm (n := n) Zgo Vb w a
theorem ZcL (n : Nat) (w : World) (a : Addr) : Sem.run prog (method (n + 1) 218 (.pointer (some a)) "Less") w = .ok (293, .pointer (some a)) w := Vm (n := n) ZeP Vb w a
theorem uz (n : Nat) (w : World) (a : Addr) : Sem.run prog (method (n + 1) 218 (.pointer (some a)) "Swap") w = .ok (296, .pointer (some a)) w := Vm (n := n) ZeR Vb w a
theorem Zg6 (n : Nat) (w : World) (a : Addr) : Sem.run prog (method (n + 1) 218 (.pointer (some a)) "Pop") w = .ok (294, .pointer (some a)) w := Vm (n := n) Zgp Vb w a
theorem Zf3 (n : Nat) (w : World) (a : Addr) : Sem.run prog (method (n + 1) 218 (.pointer (some a)) "Push") w = .ok (295, .pointer (some a)) w := Vm (n := n) ZeQ Vb w a
structure SQ (w:World) (b B:Nat) (js v:Value) (q:List Int):Prop where
 blk:w.1[b]?=some (.cells #[js,v] 220 (0,0))
 own:QV w B v q
 lt:b<B
 hi:B<=w.1.size
structure SqT (w:World) (b B:Nat) (js v:Value) (q:List Int) (w':World):Prop where
 q:∃q',q'.Perm q/\SQ w' b B js v q'
 but:But (fun k=>v.ownBlock=some k) w w'
def SqP(w:World)(b B:Nat)(js v:Value)(q:List Int)(w':World):Prop:=∃v' q',q'.Perm q/\SQ w' b B js v' q'/\(∀k,v'.ownBlock=some k->v.ownBlock=some k\/w.1.size<=k)/\But (fun k=>k=b\/v.ownBlock=some k) w w'
theorem SQ.ob{q:List Int}(h:SQ w b B js v q):∀k,v.ownBlock=some k->B<=k/\k<w.1.size:=World.ownsRow.lt h.own
theorem SQ.nb{q:List Int}(h:SQ w b B js v q):¬v.ownBlock=some b:=fun e=>by have:=(h.ob b e).1;have:=h.lt;omega
theorem SQ.but{q:List Int}(h:SQ w b B js v q){S:Nat->Prop}(hb:But S w w')(h1:¬S b)(h2:∀k,v.ownBlock=some k->¬S k):SQ w' b B js v q :=
 ⟨(hb.block b (Zb h.blk) h1).trans h.blk,hb.own h.own h2,h.lt,Zm h.hi hb.size⟩
theorem SQ.keep{q:List Int}(h:SQ w b B js v q)(hb:Below w.1.size w w'):SQ w' b B js v q:=h.but (But.of_below (S:=fun _=>False) hb) (fun h=>h) (fun _ _ h=>h)
theorem SQ.turn{q q':List Int}(h:SQ w b B js v q)(ho:QV w' B v q')(hb:But (fun k=>v.ownBlock=some k) w w'):SQ w' b B js v q' :=
 ⟨(hb.block b (Zb h.blk) h.nb).trans h.blk,ho,h.lt,Zm h.hi hb.size⟩
theorem SQ.form{w:World}{b B:Nat}{js v:Value}{q:List Int}(h:SQ w b B js v q){i:Nat}(hi:i<q.length):∃g cap,v=.slice (some ⟨g,0,none⟩) q.length cap/\B<=g/\g<w.1.size/\(∀i,i<q.length->w.cell? ⟨g,i,none⟩=some (.int .i64 (q.getD i 0)))/\∀i,w.frozen? ⟨g,i,none⟩=false :=
 QV.form h.own (by intro e;rw[e] at hi;simp at hi)
theorem E6{q:List Int}(h:SQ w b B f v q):Calls prog 115 #[.pointer (some ⟨b,0,none⟩)] w fun x w'=>x=.returned (.int .i64 (q.length:Int))/\w'=w:=by
 obtain⟨g,cap,rfl⟩:=YC h.own;obtain⟨⟨c0,c1⟩,j⟩:=YI h.blk;clear h;go_enter func115,ntmps115;go_wp2;go_ret;exact⟨rfl,rfl⟩
theorem VT7{q:List Int}{i j:Nat}(hi:i<q.length)(f:j<q.length):(swp q i j).Perm q:=by
 have g:q.getD i 0=q[i]:=by rw[Zf,Ze hi];rfl
 have m:q.getD j 0=q[j]:=by rw[Zf,Ze f];rfl
 unfold swp;rw[g,m];exact List.set_set_perm hi f
def ZdT(b g n cap:Nat)(js:Value)(W:World):Prop:=W.cell? ⟨b,0,none⟩=some js/\W.cell? ⟨b,1,none⟩=some (.slice (some ⟨g,0,none⟩) n cap)
theorem bZ390{p:Prop}(h:p:=by first|with_reducible exact KA.o|exact KB.o _ _ _ KA.o|exact KB.o _ _ _ (KB.o _ _ _ KA.o)):p:=h
theorem Za6{q:List Int}(h:SQ w b B f v q)(i j:Nat)(hi:i<q.length)(C:j<q.length) :
  Calls prog 296 #[.pointer (some ⟨b,0,none⟩),.int .i64 (i:Int),.int .i64 (j:Int)] w fun x w'=>x=.returned (.tuple #[])/\SqT w b B f v q w':=by
 obtain⟨g,cap,rfl,M,O,z,A⟩:=h.form hi;have c1:=z i hi;have c2:=z j C;have f1:=A i;have L:=A j;obtain⟨⟨c0,H⟩,J⟩:=YI h.blk;have T:(0:Int)<=(i:Int):=oq;have V:(0:Int)<=(j:Int):=oq;have U:(i:Int)<(q.length:Int):=oq;have X:(j:Int)<(q.length:Int):=oq;obtain⟨x,D⟩:=ez (q.getD i 0);obtain⟨y,hy⟩:=ez (q.getD j 0);rw[D] at c1;rw[hy] at c2;have main:SqT w b B f (.slice (some ⟨g,0,none⟩) q.length cap) q ((w.drew.setCell ⟨g,i,none⟩ (.int .i64 y)).setCell ⟨g,j,none⟩ (.int .i64 x)):=by
  have I:QV w.drew B (.slice (some ⟨g,0,none⟩) q.length cap) q:=h.own;have G:=V5 (V5 I i (.int .i64 y) hi) j (.int .i64 x) C;have F:But (fun k=>(Value.slice (some ⟨g,0,none⟩) q.length cap).ownBlock=some k) w ((w.drew.setCell ⟨g,i,none⟩ (.int .i64 y)).setCell ⟨g,j,none⟩ (.int .i64 x)):=((But.refl _ w).drew.trans (But.set (S:=fun k=>(Value.slice (some ⟨g,0,none⟩) q.length cap).ownBlock=some k) (b:=g) (o:=i) rfl _)).trans (But.set (S:=fun k=>(Value.slice (some ⟨g,0,none⟩) q.length cap).ownBlock=some k) (b:=g) (o:=j) rfl _);rw[ints_set,ints_set] at G;refine⟨⟨swp q i j,VT7 hi C,h.turn ?_ F⟩,F⟩;unfold QV;rw[XD];unfold swp;rw[D,hy];exact G
 obtain⟨u,R⟩:∃u,(w.setCell ⟨g,i,none⟩ (.int .i64 y)).cell? ⟨g,j,none⟩=some u:=by
  have:=World.ownsRow.cellAt (V5 h.own i (.int .i64 y) hi) j oq;rw[this];exact⟨_,Ze (by simp[Q1];omega)⟩
 have E:=hid main;have m:¬b=g:=by have:=h.lt;omega
 have KA:=hid (show ZdT b g q.length cap f w.drew from ⟨c0,H⟩);have KB:=hid (fun(W:World) (o:Nat) (u:Value) (hW:ZdT b g q.length cap f W)=>(show ZdT b g q.length cap f (W.setCell ⟨g,o,none⟩ u) from ⟨(ZH W ⟨g,o,none⟩ ⟨b,0,none⟩ u (fun e=>m e.symm)).trans hW.1,(ZH W ⟨g,o,none⟩ ⟨b,1,none⟩ u (fun e=>m e.symm)).trans hW.2⟩));clear main z A h D hy;go_enter func296,ntmps296;refine ZP (S:=ZdT b g q.length cap f) kq bZ390 (fun hH=>?_);refine tk 0 hH ?_;refine tk 1 hH ?_;refine tk 2 hH ?_;refine tk 3 hH ?_;refine tk 4 hH ?_;refine tk 5 hH ?_;refine tk 6 hH ?_;refine tk 7 hH ?_;refine tk 8 hH ?_;refine tk 9 hH ?_;refine tk 10 hH ?_;refine tk 11 hH ?_;refine tk 12 hH ?_;refine tk 13 hH ?_;refine tk 14 hH ?_;refine tk 15 hH ?_;refine tk 17 hH ?_;refine tk 18 hH ?_;refine tk 19 hH ?_;refine tk 20 hH ?_;refine tk 21 hH ?_;refine tk 22 hH ?_;refine rz 16 23 (fun K hK=>?_) fun K hK=>?_
 .go_simp;refine hK.o _ _ (fun hH=>?_) bZ390;clear hK K;refine ry 23 fun K hK=>?_
  go_simp;refine hK.o _ _ (fun hH=>?_) bZ390;clear hK K;refine tk 24 hH ?_;refine ry 25 fun K hK=>?_
  go_simp;refine hK.o _ _ (fun hH=>?_) bZ390;clear hK K;refine tk 26 hH ?_;refine ry 27 fun K hK=>?_
  go_simp;refine hK.o _ _ (fun hH=>?_) bZ390;clear hK K;refine Zz kq ?_ _;go_end0;exact⟨rfl,E.o⟩
 go_simp;refine hK.o _ _ (fun hH=>?_) bZ390;clear hK K;refine ry 16 fun K hK=>?_
 go_simp;refine hK.o _ _ (fun hH=>?_) bZ390;clear hK K;refine tk 24 hH ?_;refine ry 25 fun K hK=>?_
 go_simp;refine hK.o _ _ (fun hH=>?_) bZ390;clear hK K;refine tk 26 hH ?_;refine ry 27 fun K hK=>?_
 go_simp;refine hK.o _ _ (fun hH=>?_) bZ390;clear hK K;refine Zz kq ?_ _;go_end0;exact⟨rfl,E.o⟩
