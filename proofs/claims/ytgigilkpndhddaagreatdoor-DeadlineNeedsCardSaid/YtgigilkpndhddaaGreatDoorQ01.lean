/-
  Parts of the proof: Apply2, ApplyA, All.
-/
import Derived.Test.YtgigilkpndhddaaGreatDoorQ00
namespace Go.Proofs.YtgigilkpndhddaaGreatDoor.clock
set_option linter.unusedVariables false
set_option linter.unusedSimpArgs false
set_option linter.unnecessarySimpa false
set_option maxRecDepth 100000
set_option maxHeartbeats 16000000
open Go.RowKit
def Kd (p f e:Int):Value:=.tuple #[.agg #[.int .i64 p,.int .i64 f],.int .i64 e]
theorem Yr {B k:Nat} {a w:World} (h:Below B a w) (hk:k<a.heap.size):k<w.heap.size:=Nat.lt_of_lt_of_le hk h.size
theorem yD (p f k n d:Int) (w:World) (h:¬(1≤p∧p≤2000∧0≤f∧f≤2000)) :
  Calls Tryz.prog 77 #[.agg #[.int .i64 p,.int .i64 f],.agg #[.int .i64 k,.int .i64 n,.int .i64 d]] w fun e w'=>e=.returned (Kd 0 0 12)∧Below w.heap.size w w':=by
 have HR:=Lib.hid (fun w=>QL p f w h)
 clear h
 go_enter Tryz.func77,Tryz.ntmps77
 go_wp2_with (go_at_call 58;(with_reducible refine(HR.out _).mono ?_);rintro e w1 ⟨rfl,hb1⟩;obtain⟨hc1,hf1⟩:=arith.Yu hb1;have ha1:w.heap.size<w1.heap.size:=Yr hb1 (by first|(simp;done)|(simp;omega));have hy1:w.heap.size+1<w1.heap.size:=Yr hb1 (by first|(simp;done)|(simp;omega));have hx1:w.heap.size+1+1<w1.heap.size:=Yr hb1 (by simp))
 exact bodyPost_ret (v:=.tuple #[.agg #[.int .i64 0,.int .i64 0],.int .i64 12]) (by simp only[results,Tryz.results77];go_simp) rfl ⟨rfl,(by repeat (first|exact Below.refl _ _|(refine Below.setCell ?_ (by first|omega|(simp;done)|(simp;omega)) _)|(refine Below.alloc ?_ (by first|omega|(simp;done)|(simp;omega)) _)|(refine arith.below_drewN ?_ _)|(refine Below.trans ?_ (hb1.mono (by first|omega|(simp;done)|(simp;omega))))))⟩
theorem jw (p f k n d:Int) (w:World) (h:1≤p∧p≤2000∧0≤f∧f≤2000) (hk:k<3∨8<k) :
  Calls Tryz.prog 77 #[.agg #[.int .i64 p,.int .i64 f],.agg #[.int .i64 k,.int .i64 n,.int .i64 d]] w fun e w'=>e=.returned (Kd 0 0 12)∧Below w.heap.size w w':=by
 have HR:=Lib.hid (fun w=>Y4 p f w h)
 clear h
 rcases hk with hk|hk
 all_goals
  go_enter Tryz.func77,Tryz.ntmps77
  go_wp2_with (go_at_call 58;(with_reducible refine(HR.out _).mono ?_);rintro e w1 ⟨rfl,hb1⟩;obtain⟨hc1,hf1⟩:=arith.Yu hb1;have ha1:w.heap.size<w1.heap.size:=Yr hb1 (by first|(simp;done)|(simp;omega));have hy1:w.heap.size+1<w1.heap.size:=Yr hb1 (by first|(simp;done)|(simp;omega));have hx1:w.heap.size+1+1<w1.heap.size:=Yr hb1 (by simp))
  all_goals exact bodyPost_ret (v:=.tuple #[.agg #[.int .i64 0,.int .i64 0],.int .i64 12]) (by simp only[results,Tryz.results77];go_simp) rfl ⟨rfl,(by repeat (first|exact Below.refl _ _|(refine Below.setCell ?_ (by first|omega|(simp;done)|(simp;omega)) _)|(refine Below.alloc ?_ (by first|omega|(simp;done)|(simp;omega)) _)|(refine arith.below_drewN ?_ _)|(refine Below.trans ?_ (hb1.mono (by first|omega|(simp;done)|(simp;omega))))))⟩
theorem zT (p f k n d:Int) (w:World) (h:1≤p∧p≤2000∧0≤f∧f≤2000) (hk:3≤k∧k≤8) (hn:Jd k n d=false) :
  Calls Tryz.prog 77 #[.agg #[.int .i64 p,.int .i64 f],.agg #[.int .i64 k,.int .i64 n,.int .i64 d]] w fun e w'=>e=.returned (Kd 0 0 7)∧Below w.heap.size w w':=by
 have HR:=Lib.hid (fun w=>Y4 p f w h)
 have HF:=Lib.hid (fun w=>Q4 k n d w hk)
 rw[hn] at HF
 have k1:=hk.1
 have k2:=hk.2
 clear h hk hn
 go_enter Tryz.func77,Tryz.ntmps77
 go_wp2_with (first|(go_at_call 58;(with_reducible refine(HR.out _).mono ?_);rintro e w1 ⟨rfl,hb1⟩;obtain⟨hc1,hf1⟩:=arith.Yu hb1;have ha1:w.heap.size<w1.heap.size:=Yr hb1 (by first|(simp;done)|(simp;omega));have hy1:w.heap.size+1<w1.heap.size:=Yr hb1 (by first|(simp;done)|(simp;omega));have hx1:w.heap.size+1+1<w1.heap.size:=Yr hb1 (by simp))|(go_at_call 117;(with_reducible refine(HF.out _).mono ?_);rintro e w2 ⟨rfl,hb2⟩;obtain⟨hc2,hf2⟩:=arith.Yu hb2;have ha2:w.heap.size<w2.heap.size:=Nat.lt_of_lt_of_le ha1 hb2.size;have hy2:w.heap.size+1<w2.heap.size:=Nat.lt_of_lt_of_le hy1 hb2.size;have hx2:w.heap.size+1+1<w2.heap.size:=Nat.lt_of_lt_of_le hx1 hb2.size))
 exact bodyPost_ret (v:=.tuple #[.agg #[.int .i64 0,.int .i64 0],.int .i64 7]) (by simp only[results,Tryz.results77];go_simp) rfl ⟨rfl,(by repeat (first|exact Below.refl _ _|(refine Below.setCell ?_ (by first|omega|(simp;done)|(simp;omega)) _)|(refine Below.alloc ?_ (by first|omega|(simp;done)|(simp;omega)) _)|(refine arith.below_drewN ?_ _)|(refine Below.trans ?_ (hb2.mono (by first|omega|(simp;done)|(simp;omega))))|(refine Below.trans ?_ (hb1.mono (by first|omega|(simp;done)|(simp;omega))))))⟩
theorem Ge (p f k n d p' f':Int) (w:World) (h:1≤p∧p≤2000∧0≤f∧f≤2000) (hk:3≤k∧k≤8) (hn:Jd k n d=true)
  (HC0:∀w,Calls Tryz.prog 118 #[.agg #[.int .i64 p,.int .i64 f],.agg #[.int .i64 k,.int .i64 n,.int .i64 d]] w fun e w' =>
   e=.returned (.tuple #[.agg #[.int .i64 p',.int .i64 f'],.bool false])∧Below w.heap.size w w') :
  Calls Tryz.prog 77 #[.agg #[.int .i64 p,.int .i64 f],.agg #[.int .i64 k,.int .i64 n,.int .i64 d]] w fun e w'=>e=.returned (Kd 0 0 5)∧Below w.heap.size w w':=by
 have HR:=Lib.hid (fun w=>Y4 p f w h)
 have HF:=Lib.hid (fun w=>Q4 k n d w hk)
 rw[hn] at HF
 have HC:=Lib.hid HC0
 have k1:=hk.1
 have k2:=hk.2
 clear h hk hn HC0
 go_enter Tryz.func77,Tryz.ntmps77
 go_wp2_with (first|(go_at_call 58;(with_reducible refine(HR.out _).mono ?_);rintro e w1 ⟨rfl,hb1⟩;obtain⟨hc1,hf1⟩:=arith.Yu hb1;have ha1:w.heap.size<w1.heap.size:=Yr hb1 (by first|(simp;done)|(simp;omega));have hy1:w.heap.size+1<w1.heap.size:=Yr hb1 (by first|(simp;done)|(simp;omega));have hx1:w.heap.size+1+1<w1.heap.size:=Yr hb1 (by simp))|(go_at_call 117;(with_reducible refine(HF.out _).mono ?_);rintro e w2 ⟨rfl,hb2⟩;obtain⟨hc2,hf2⟩:=arith.Yu hb2;have ha2:w.heap.size<w2.heap.size:=Nat.lt_of_lt_of_le ha1 hb2.size;have hy2:w.heap.size+1<w2.heap.size:=Nat.lt_of_lt_of_le hy1 hb2.size;have hx2:w.heap.size+1+1<w2.heap.size:=Nat.lt_of_lt_of_le hx1 hb2.size)|(go_at_call 118;(with_reducible refine(HC.out _).mono ?_);rintro e w3 ⟨rfl,hb3⟩;obtain⟨hc3,hf3⟩:=arith.Yu hb3;have ha3:w.heap.size<w3.heap.size:=Nat.lt_of_lt_of_le ha2 hb3.size;have hy3:w.heap.size+1<w3.heap.size:=Nat.lt_of_lt_of_le hy2 hb3.size;have hx3:w.heap.size+1+1<w3.heap.size:=Nat.lt_of_lt_of_le hx2 hb3.size))
 exact bodyPost_ret (v:=.tuple #[.agg #[.int .i64 0,.int .i64 0],.int .i64 5]) (by simp only[results,Tryz.results77];go_simp) rfl ⟨rfl,(by repeat (first|exact Below.refl _ _|(refine Below.setCell ?_ (by first|omega|(simp;done)|(simp;omega)) _)|(refine Below.alloc ?_ (by first|omega|(simp;done)|(simp;omega)) _)|(refine arith.below_drewN ?_ _)|(refine Below.trans ?_ (hb3.mono (by first|omega|(simp;done)|(simp;omega))))|(refine Below.trans ?_ (hb2.mono (by first|omega|(simp;done)|(simp;omega))))|(refine Below.trans ?_ (hb1.mono (by first|omega|(simp;done)|(simp;omega))))))⟩
theorem UF (p f k n d p' f':Int) (w:World) (h:1≤p∧p≤2000∧0≤f∧f≤2000) (hk:3≤k∧k≤8) (hn:Jd k n d=true) (hr:¬(1≤p'∧p'≤2000∧0≤f'∧f'≤2000))
  (HC0:∀w,Calls Tryz.prog 118 #[.agg #[.int .i64 p,.int .i64 f],.agg #[.int .i64 k,.int .i64 n,.int .i64 d]] w fun e w' =>
   e=.returned (.tuple #[.agg #[.int .i64 p',.int .i64 f'],.bool true])∧Below w.heap.size w w') :
  Calls Tryz.prog 77 #[.agg #[.int .i64 p,.int .i64 f],.agg #[.int .i64 k,.int .i64 n,.int .i64 d]] w fun e w'=>e=.returned (Kd 0 0 7)∧Below w.heap.size w w':=by
 have HR2:=Lib.hid (fun w=>QL p' f' w hr)
 have tok:=trivial
 have HR:=Lib.hid (fun w=>Y4 p f w h)
 have HF:=Lib.hid (fun w=>Q4 k n d w hk)
 rw[hn] at HF
 have HC:=Lib.hid HC0
 have k1:=hk.1
 have k2:=hk.2
 clear h hk hn HC0
 clear hr
 go_enter Tryz.func77,Tryz.ntmps77
 go_wp2_with (first|(have _t:=tok;go_at_call 58;(with_reducible refine(HR.out _).mono ?_);rintro e w1 ⟨rfl,hb1⟩;obtain⟨hc1,hf1⟩:=arith.Yu hb1;clear tok;have ha1:w.heap.size<w1.heap.size:=Yr hb1 (by first|(simp;done)|(simp;omega));have hy1:w.heap.size+1<w1.heap.size:=Yr hb1 (by first|(simp;done)|(simp;omega));have hx1:w.heap.size+1+1<w1.heap.size:=Yr hb1 (by simp))|(go_at_call 117;(with_reducible refine(HF.out _).mono ?_);rintro e w2 ⟨rfl,hb2⟩;obtain⟨hc2,hf2⟩:=arith.Yu hb2;have ha2:w.heap.size<w2.heap.size:=Nat.lt_of_lt_of_le ha1 hb2.size;have hy2:w.heap.size+1<w2.heap.size:=Nat.lt_of_lt_of_le hy1 hb2.size;have hx2:w.heap.size+1+1<w2.heap.size:=Nat.lt_of_lt_of_le hx1 hb2.size)|(go_at_call 118;(with_reducible refine(HC.out _).mono ?_);rintro e w3 ⟨rfl,hb3⟩;obtain⟨hc3,hf3⟩:=arith.Yu hb3;have ha3:w.heap.size<w3.heap.size:=Nat.lt_of_lt_of_le ha2 hb3.size;have hy3:w.heap.size+1<w3.heap.size:=Nat.lt_of_lt_of_le hy2 hb3.size;have hx3:w.heap.size+1+1<w3.heap.size:=Nat.lt_of_lt_of_le hx2 hb3.size)|(go_at_call 58;(with_reducible refine(HR2.out _).mono ?_);rintro e w4 ⟨rfl,hb4⟩;obtain⟨hc4,hf4⟩:=arith.Yu hb4;have ha4:w.heap.size<w4.heap.size:=Yr hb4 (by first|(simp;done)|(simp;omega));have hy4:w.heap.size+1<w4.heap.size:=Yr hb4 (by first|(simp;done)|(simp;omega));have hx4:w.heap.size+1+1<w4.heap.size:=Yr hb4 (by first|(simp;done)|(simp;omega));have hv4:w3.heap.size<w4.heap.size:=Yr hb4 (by simp);have he4:w.heap.size+1+1<w3.heap.size+1:=(by omega);have hn4:¬w.heap.size+1+1=w3.heap.size:=(by omega)))
 exact bodyPost_ret (v:=.tuple #[.agg #[.int .i64 0,.int .i64 0],.int .i64 7]) (by simp only[results,Tryz.results77];go_simp) rfl ⟨rfl,(by repeat (first|exact Below.refl _ _|(refine Below.setCell ?_ (by first|omega|(simp;done)|(simp;omega)) _)|(refine Below.alloc ?_ (by first|omega|(simp;done)|(simp;omega)) _)|(refine arith.below_drewN ?_ _)|(refine Below.trans ?_ (hb4.mono (by first|omega|(simp;done)|(simp;omega))))|(refine Below.trans ?_ (hb3.mono (by first|omega|(simp;done)|(simp;omega))))|(refine Below.trans ?_ (hb2.mono (by first|omega|(simp;done)|(simp;omega))))|(refine Below.trans ?_ (hb1.mono (by first|omega|(simp;done)|(simp;omega))))))⟩
theorem Q3 (p f k n d p' f':Int) (w:World) (h:1≤p∧p≤2000∧0≤f∧f≤2000) (hk:3≤k∧k≤8) (hn:Jd k n d=true) (hr:1≤p'∧p'≤2000∧0≤f'∧f'≤2000)
  (HC0:∀w,Calls Tryz.prog 118 #[.agg #[.int .i64 p,.int .i64 f],.agg #[.int .i64 k,.int .i64 n,.int .i64 d]] w fun e w' =>
   e=.returned (.tuple #[.agg #[.int .i64 p',.int .i64 f'],.bool true])∧Below w.heap.size w w') :
  Calls Tryz.prog 77 #[.agg #[.int .i64 p,.int .i64 f],.agg #[.int .i64 k,.int .i64 n,.int .i64 d]] w fun e w'=>e=.returned (Kd p' f' 0)∧Below w.heap.size w w':=by
 have HR2:=Lib.hid (fun w=>Y4 p' f' w hr)
 have tok:=trivial
 have HR:=Lib.hid (fun w=>Y4 p f w h)
 have HF:=Lib.hid (fun w=>Q4 k n d w hk)
 rw[hn] at HF
 have HC:=Lib.hid HC0
 have k1:=hk.1
 have k2:=hk.2
 clear h hk hn HC0
 clear hr
 go_enter Tryz.func77,Tryz.ntmps77
 go_wp2_with (first|(have _t:=tok;go_at_call 58;(with_reducible refine(HR.out _).mono ?_);rintro e w1 ⟨rfl,hb1⟩;obtain⟨hc1,hf1⟩:=arith.Yu hb1;clear tok;have ha1:w.heap.size<w1.heap.size:=Yr hb1 (by first|(simp;done)|(simp;omega));have hy1:w.heap.size+1<w1.heap.size:=Yr hb1 (by first|(simp;done)|(simp;omega));have hx1:w.heap.size+1+1<w1.heap.size:=Yr hb1 (by simp))|(go_at_call 117;(with_reducible refine(HF.out _).mono ?_);rintro e w2 ⟨rfl,hb2⟩;obtain⟨hc2,hf2⟩:=arith.Yu hb2;have ha2:w.heap.size<w2.heap.size:=Nat.lt_of_lt_of_le ha1 hb2.size;have hy2:w.heap.size+1<w2.heap.size:=Nat.lt_of_lt_of_le hy1 hb2.size;have hx2:w.heap.size+1+1<w2.heap.size:=Nat.lt_of_lt_of_le hx1 hb2.size)|(go_at_call 118;(with_reducible refine(HC.out _).mono ?_);rintro e w3 ⟨rfl,hb3⟩;obtain⟨hc3,hf3⟩:=arith.Yu hb3;have ha3:w.heap.size<w3.heap.size:=Nat.lt_of_lt_of_le ha2 hb3.size;have hy3:w.heap.size+1<w3.heap.size:=Nat.lt_of_lt_of_le hy2 hb3.size;have hx3:w.heap.size+1+1<w3.heap.size:=Nat.lt_of_lt_of_le hx2 hb3.size)|(go_at_call 58;(with_reducible refine(HR2.out _).mono ?_);rintro e w4 ⟨rfl,hb4⟩;obtain⟨hc4,hf4⟩:=arith.Yu hb4;have ha4:w.heap.size<w4.heap.size:=Yr hb4 (by first|(simp;done)|(simp;omega));have hy4:w.heap.size+1<w4.heap.size:=Yr hb4 (by first|(simp;done)|(simp;omega));have hx4:w.heap.size+1+1<w4.heap.size:=Yr hb4 (by first|(simp;done)|(simp;omega));have hv4:w3.heap.size<w4.heap.size:=Yr hb4 (by simp);have he4:w.heap.size+1+1<w3.heap.size+1:=(by omega);have hn4:¬w.heap.size+1+1=w3.heap.size:=(by omega)))
 exact bodyPost_ret (v:=.tuple #[.agg #[.int .i64 p',.int .i64 f'],.int .i64 0]) (by simp only[results,Tryz.results77];go_simp) rfl ⟨rfl,(by repeat (first|exact Below.refl _ _|(refine Below.setCell ?_ (by first|omega|(simp;done)|(simp;omega)) _)|(refine Below.alloc ?_ (by first|omega|(simp;done)|(simp;omega)) _)|(refine arith.below_drewN ?_ _)|(refine Below.trans ?_ (hb4.mono (by first|omega|(simp;done)|(simp;omega))))|(refine Below.trans ?_ (hb3.mono (by first|omega|(simp;done)|(simp;omega))))|(refine Below.trans ?_ (hb2.mono (by first|omega|(simp;done)|(simp;omega))))|(refine Below.trans ?_ (hb1.mono (by first|omega|(simp;done)|(simp;omega))))))⟩
def fin (p f:Int):Int × Int × Int:=if f≤2000 then (p,f,0) else (0,0,7)
def Yx (p f k n d:Int):Int × Int × Int :=
 if Yz p f=false∨k<3∨8<k then (0,0,12)
 else if Jd k n d=false then (0,0,7)
 else if k=3 then (if p%n=0 then (p/n,f,0) else (0,0,5))
 else if k=4 then (if p*n≤2000 then (p*n,f,0) else (0,0,7))
 else if k=5 then (if p*n%d=0 then fin p (f+p*n/d) else (0,0,5))
 else if k=6 then (p,f,0)
 else if k=7 then fin p (f+p)
 else if p≤f then (p,f-p,0) else (0,0,5)
def zU (r:Int × Int × Int):Value:=Kd r.1 r.2.1 r.2.2
theorem jU {k n d:Int} (hk:k=3∨k=4) (h:Jd k n d=true):1≤n∧n≤100:=by
 unfold Jd at h;have:=of_decide_eq_true h;omega
theorem Zde {n d:Int} (h:Jd 5 n d=true):1≤d∧d≤100∧0≤n∧n≤100:=by
 unfold Jd at h;have:=of_decide_eq_true h;omega
theorem Em {p n:Int} (h1:1≤p) (h2:p≤2000) (hn:1≤n) (hz:p%n=0):1≤p/n∧p/n≤2000:=by
 have h:=plain.E8 p n hn
 have h':=h.1 (by omega)
 refine⟨?_,by omega⟩
 apply Classical.byContradiction;intro hlt
 have h0:p/n=0:=by omega
 have:=Int.ediv_mul_add_emod p n
 rw[h0,hz] at this;omega
theorem gy {p n:Int} (h1:1≤p) (hn:1≤n):1≤p*n:=arith.KI h1 hn
theorem UC (p f k n d:Int) (w:World) :
  Calls Tryz.prog 77 #[.agg #[.int .i64 p,.int .i64 f],.agg #[.int .i64 k,.int .i64 n,.int .i64 d]] w fun e w' =>
   e=.returned (zU (Yx p f k n d))∧Below w.heap.size w w':=by
 by_cases h:1≤p∧p≤2000∧0≤f∧f≤2000
 ·have hR:=XL h
  by_cases hk:k<3∨8<k
  ·have e:Yx p f k n d=(0,0,12):=by unfold Yx;rw[if_pos (.inr hk)]
   rw[e];exact jw p f k n d w h hk
  have hk':3≤k∧k≤8:=by omega
  have n1:¬(Yz p f=false∨k<3∨8<k):=by rw[hR];simp;omega
  cases hn:Jd k n d with
  | false =>
   have e:Yx p f k n d=(0,0,7):=by unfold Yx;rw[if_neg n1,if_pos hn]
   rw[e];exact zT p f k n d w h hk' hn
  | true =>
   have n2:¬(Jd k n d=false):=by rw[hn];simp
   have p1:=h.1
   have p2:=h.2.1
   have f1:=h.2.2.1
   have f2:=h.2.2.2
   have hcases:k=3∨k=4∨k=5∨k=6∨k=7∨k=8:=by omega
   rcases hcases with rfl|rfl|rfl|rfl|rfl|rfl
   ·have hf:=jU (.inl rfl) hn
    by_cases hz:p%n=0
    ·have q:=Em p1 p2 hf.1 hz
     have e:Yx p f 3 n d=(p/n,f,0):=by unfold Yx;rw[if_neg n1,if_neg n2,if_pos rfl,if_pos hz]
     rw[e]
     refine Q3 p f 3 n d (p/n) f w h hk' hn ⟨q.1,q.2,f1,f2⟩ fun w=>?_
     have:=U7 p f n d w (by omega) p2 f1 f2 hf.1 hf.2
     rwa [show(p%n == 0)=true by simpa using hz] at this
    have e:Yx p f 3 n d=(0,0,5):=by unfold Yx;rw[if_neg n1,if_neg n2,if_pos rfl,if_neg hz]
    rw[e]
    refine Ge p f 3 n d (p/n) f w h hk' hn fun w=>?_
    have:=U7 p f n d w (by omega) p2 f1 f2 hf.1 hf.2
    rwa [show(p%n == 0)=false by simpa using hz] at this
   ·have hf:=jU (.inr rfl) hn
    have hm:=gy p1 hf.1
    by_cases hz:p*n≤2000
    ·have e:Yx p f 4 n d=(p*n,f,0):=by unfold Yx;rw[if_neg n1,if_neg n2,if_neg (by omega),if_pos rfl,if_pos hz]
     rw[e]
     exact Q3 p f 4 n d (p*n) f w h hk' hn ⟨hm,hz,f1,f2⟩ fun w=>VW p f n d w (by omega) p2 f1 f2 hf.1 hf.2
    have e:Yx p f 4 n d=(0,0,7):=by unfold Yx;rw[if_neg n1,if_neg n2,if_neg (by omega),if_pos rfl,if_neg hz]
    rw[e]
    exact UF p f 4 n d (p*n) f w h hk' hn (by omega) fun w=>VW p f n d w (by omega) p2 f1 f2 hf.1 hf.2
   ·have hf:=Zde hn
    by_cases hz:p*n%d=0
    ·have e:Yx p f 5 n d=fin p (f+p*n/d):=by unfold Yx;rw[if_neg n1,if_neg n2,if_neg (by omega),if_neg (by omega),if_pos rfl,if_pos hz]
     have HC:∀w,Calls Tryz.prog 118 #[.agg #[.int .i64 p,.int .i64 f],.agg #[.int .i64 5,.int .i64 n,.int .i64 d]] w fun e w' =>
       e=.returned (.tuple #[.agg #[.int .i64 p,.int .i64 (f+p*n/d)],.bool true])∧Below w.heap.size w w':=fun w=>by
      have:=V6 p f n d w (by omega) p2 f1 f2 hf.2.2.1 hf.2.2.2 hf.1 hf.2.1
      rwa [show(p*n%d == 0)=true by simpa using hz] at this
     have hq:=Int.ediv_nonneg (Int.mul_nonneg (show 0≤p by omega) hf.2.2.1) (show 0≤d by omega)
     rw[e];unfold fin
     by_cases hr:f+p*n/d≤2000
     ·rw[if_pos hr];exact Q3 p f 5 n d p (f+p*n/d) w h hk' hn ⟨p1,p2,by omega,hr⟩ HC
     rw[if_neg hr];exact UF p f 5 n d p (f+p*n/d) w h hk' hn (by omega) HC
    have e:Yx p f 5 n d=(0,0,5):=by unfold Yx;rw[if_neg n1,if_neg n2,if_neg (by omega),if_neg (by omega),if_pos rfl,if_neg hz]
    rw[e]
    refine Ge p f 5 n d p (f+p*n/d) w h hk' hn fun w=>?_
    have:=V6 p f n d w (by omega) p2 f1 f2 hf.2.2.1 hf.2.2.2 hf.1 hf.2.1
    rwa [show(p*n%d == 0)=false by simpa using hz] at this
   ·have e:Yx p f 6 n d=(p,f,0):=by unfold Yx;rw[if_neg n1,if_neg n2,if_neg (by omega),if_neg (by omega),if_neg (by omega),if_pos rfl]
    rw[e];exact Q3 p f 6 n d p f w h hk' hn h fun w=>qi p f n d w
   ·have e:Yx p f 7 n d=fin p (f+p):=by unfold Yx;rw[if_neg n1,if_neg n2,if_neg (by omega),if_neg (by omega),if_neg (by omega),if_neg (by omega),if_pos rfl]
    rw[e];unfold fin
    by_cases hr:f+p≤2000
    ·rw[if_pos hr];exact Q3 p f 7 n d p (f+p) w h hk' hn ⟨p1,p2,by omega,hr⟩ fun w=>U0 p f n d w (by omega) p2 f1 f2
    rw[if_neg hr];exact UF p f 7 n d p (f+p) w h hk' hn (by omega) fun w=>U0 p f n d w (by omega) p2 f1 f2
   by_cases hz:p≤f
   ·have e:Yx p f 8 n d=(p,f-p,0):=by unfold Yx;rw[if_neg n1,if_neg n2,if_neg (by omega),if_neg (by omega),if_neg (by omega),if_neg (by omega),if_neg (by omega),if_pos hz]
    rw[e]
    refine Q3 p f 8 n d p (f-p) w h hk' hn ⟨p1,p2,by omega,by omega⟩ fun w=>?_
    have:=UU p f n d w (by omega) p2 f1 f2
    rwa [show decide (p≤f)=true by simpa using hz] at this
   have e:Yx p f 8 n d=(0,0,5):=by unfold Yx;rw[if_neg n1,if_neg n2,if_neg (by omega),if_neg (by omega),if_neg (by omega),if_neg (by omega),if_neg (by omega),if_neg hz]
   rw[e]
   refine Ge p f 8 n d p (f-p) w h hk' hn fun w=>?_
   have:=UU p f n d w (by omega) p2 f1 f2
   rwa [show decide (p≤f)=false by simpa using hz] at this
 have e:Yx p f k n d=(0,0,12):=by unfold Yx;rw[if_pos (.inl (V2 h))]
 rw[e];exact yD p f k n d w h
def YU:Int→Int→List (Int × Int × Int)→Int × Int × Int
 | p,f,[]=>(p,f,0)
 | p,f,o::l=>let r:=Yx p f o.1 o.2.1 o.2.2;if r.2.2=0 then YU r.1 r.2.1 l else (0,0,r.2.2)
def xz (p f:Int) (l:List (Int × Int × Int)):Int × Int × Int:=if Yz p f=true then YU p f l else (0,0,12)
theorem uL (p f:Int) (v:Value) (w:World) (h:¬(1≤p∧p≤2000∧0≤f∧f≤2000)) :
  Calls Tryz.prog 106 #[.agg #[.int .i64 p,.int .i64 f],v] w fun e w'=>e=.returned (Kd 0 0 12)∧Below w.heap.size w w':=by
 have HR:=Lib.hid (fun w=>QL p f w h)
 clear h
 go_enter Tryz.func106,Tryz.ntmps106
 go_wp2_with (go_at_call 58;(with_reducible refine(HR.out _).mono ?_);rintro e w1 ⟨rfl,hb1⟩;obtain⟨hc1,hf1⟩:=arith.Yu hb1;have ha1:w.heap.size<w1.heap.size:=Yr hb1 (by first|(simp;done)|(simp;omega));have hy1:w.heap.size+1<w1.heap.size:=Yr hb1 (by simp))
 exact bodyPost_ret (v:=.tuple #[.agg #[.int .i64 0,.int .i64 0],.int .i64 12]) (by simp only[results,Tryz.results106];go_simp) rfl ⟨rfl,(by repeat (first|exact Below.refl _ _|(refine Below.setCell ?_ (by first|omega|(simp;done)|(simp;omega)) _)|(refine Below.alloc ?_ (by first|omega|(simp;done)|(simp;omega)) _)|(refine Below.trans ?_ (hb1.mono (by first|omega|(simp;done)|(simp;omega))))))⟩
def qQ (B:Nat) (w:World) (p f:Int) (l:List (Int × Int × Int)) (k:Nat) (p' f':Int) (wr:World):Prop :=
 YU p' f' (l.drop k)=YU p f l∧Below B w wr∧B+1<wr.heap.size ∧
 wr.cell? ⟨B,0,none⟩=some (.int .i64 p')∧wr.cell? ⟨B,1,none⟩=some (.int .i64 f')∧wr.cell? ⟨B+1,0,none⟩=some (.int .i64 0)∧wr.cell? ⟨B+1,1,none⟩=some (.int .i64 0) ∧
 wr.frozen? ⟨B,0,none⟩=false∧wr.frozen? ⟨B,1,none⟩=false∧wr.frozen? ⟨B+1,0,none⟩=false∧wr.frozen? ⟨B+1,1,none⟩=false
theorem xB {B:Nat} {w wr w2:World} {p f:Int} {l:List (Int × Int × Int)} {k:Nat} {p' f' p2 f2:Int} {o o2:Obj} (h:qQ B w p f l k p' f' wr)
  (hn:YU p2 f2 (l.drop (k+1))=YU p f l) (hb:Below (wr.alloc o).heap.size (wr.alloc o) w2) :
  qQ B w p f l (k+1) p2 f2 (((w2.setCell ⟨B,0,none⟩ (.int .i64 p2)).setCell ⟨B,1,none⟩ (.int .i64 f2)).alloc o2):=by
 obtain⟨hA,hB,hz,c0,c1,c2,c3,z0,z1,z2,z3⟩:=h
 have hs:=hb.size
 rw[World.size_alloc] at hs
 have hk:Below wr.heap.size wr w2:=Below.trans ((Below.refl _ _).alloc (Nat.le_refl _) o) (hb.mono (by rw[World.size_alloc];omega))
 have s0:B<wr.heap.size:=by omega
 have s3:B<w2.heap.size:=by omega
 have s4:B+1<w2.heap.size:=by omega
 have d0:=(hk.cell (p:=⟨B,0,none⟩) s0).trans c0
 have d1:=(hk.cell (p:=⟨B,1,none⟩) s0).trans c1
 have d2:=(hk.cell (p:=⟨B+1,0,none⟩) hz).trans c2
 have d3:=(hk.cell (p:=⟨B+1,1,none⟩) hz).trans c3
 have y0:=(hk.frozen (p:=⟨B,0,none⟩) s0).trans z0
 have y1:=(hk.frozen (p:=⟨B,1,none⟩) s0).trans z1
 have y2:=(hk.frozen (p:=⟨B+1,0,none⟩) hz).trans z2
 have y3:=(hk.frozen (p:=⟨B+1,1,none⟩) hz).trans z3
 have hB2:Below B w w2:=hB.trans (hk.mono (by omega))
 clear hk hb hB c0 c1 c2 c3 z0 z1 z2 z3 hA
 refine⟨hn,?_,?_,?_,?_,?_,?_,?_,?_,?_,?_⟩
 ·exact Below.alloc (Below.setCell (Below.setCell hB2 (Nat.le_refl _) _) (Nat.le_refl _) _) (by simp;omega) _
 ·simp;omega
 all_goals go_simp
theorem xS {l r:List (Int × Int × Int)} {p f k n d p2 f2:Int} {X:Int × Int × Int} (hd:l=(k,n,d)::r) (hr:Yx p f k n d=(p2,f2,0)) (hA:YU p f l=X):YU p2 f2 r=X:=by
 rw[hd,YU] at hA
 simp only[hr] at hA
 rw[if_pos trivial] at hA;exact hA
theorem qJ {l r:List (Int × Int × Int)} {p f k n d p2 f2 e:Int} {X:Int × Int × Int} (hd:l=(k,n,d)::r) (hr:Yx p f k n d=(p2,f2,e)) (he:¬e=0) (hA:YU p f l=X):X=(0,0,e):=by
 rw[hd,YU] at hA
 simp only[hr] at hA
 rw[if_neg he] at hA;exact hA.symm
theorem xT {l:List (Int × Int × Int)} {k:Nat} (h:k<l.length):l.drop k=l.getD k (0,0,0)::l.drop (k+1):=by
 rw[List.drop_eq_getElem_cons h,plain.getD_lt _ h]
theorem Zax (p f:Int) (a:Option Addr) (cap:Nat) (l:List (Int × Int × Int)) (w:World) (h:1≤p∧p≤2000∧0≤f∧f≤2000) (hl:l.length≤9223372036854775807)
  (hcell:∀k,k<l.length→∃b off,a=some ⟨b,off,none⟩∧b<w.heap.size∧w.cell? ⟨b,off+k*3,none⟩=some (.int .i64 (l.getD k (0,0,0)).1)∧w.cell? ⟨b,off+k*3+1,none⟩=some (.int .i64 (l.getD k (0,0,0)).2.1)∧w.cell? ⟨b,off+k*3+2,none⟩=some (.int .i64 (l.getD k (0,0,0)).2.2)) :
  Calls Tryz.prog 106 #[.agg #[.int .i64 p,.int .i64 f],.slice a l.length cap] w fun e w'=>e=.returned (zU (YU p f l))∧Below w.heap.size w w':=by
 have HR:=Lib.hid (fun w=>Y4 p f w h)
 have HC:=Lib.hid hcell
 clear h hcell
 go_enter Tryz.func106,Tryz.ntmps106
 go_wp2_with (go_at_call 58;(with_reducible refine(HR.out _).mono ?_);rintro e w1 ⟨rfl,hb1⟩;obtain⟨hc1,hf1⟩:=arith.Yu hb1;have ha1:w.heap.size<w1.heap.size:=Yr hb1 (by first|(simp;done)|(simp;omega));have hy1:w.heap.size+1<w1.heap.size:=Yr hb1 (by simp))
 go_loopw [16] (fun i wr=>∃(k:Nat) (p' f':Int),k≤l.length∧i=.int .i64 k∧qQ w.heap.size w p f l k p' f' wr) (fun i _=>l.length-(intOf i).toNat)
 case atStart =>
  refine⟨0,p,f,by omega,rfl,rfl,?_,hy1,?_,?_,?_,?_,?_,?_,?_,?_⟩
  ·exact Below.trans (((Below.refl _ _).alloc (by first|omega|(simp;done)|(simp;omega)) _).alloc (by first|omega|(simp;done)|(simp;omega)) _) (hb1.mono (by first|omega|(simp;done)|(simp;omega)))
  all_goals go_simp
 obtain⟨k,p',f',hk,rfl,hrel⟩:=hrel
 have HREL:=Lib.hid hrel
 obtain⟨hA,hB,hz,c0,c1,c2,c3,z0,z1,z2,z3⟩:=hrel
 have HA:=Lib.hid hA
 have HB:=Lib.hid hB
 clear hA hB hc1 hf1 hb1 ha1 hy1
 have ha:w.heap.size<wr.heap.size:=by omega
 by_cases hlt:k<l.length
 ·have hd:=Lib.hid (xT hlt)
  obtain⟨b,off,rfl,hb0,e0,e1,e2⟩:=HC.out k hlt
  rw[←HB.out.cell (p:=⟨b,_,none⟩) hb0] at e0 e1 e2
  generalize l.getD k (0,0,0)=o at *
  obtain⟨ok,on,od⟩:=o
  simp only at e0 e1 e2
  generalize hr:Yx p' f' ok on od=r
  obtain⟨p2,f2,er⟩:=r
  have HAp:=Lib.hid (fun w=>UC p' f' ok on od w)
  simp only[hr,zU,Kd] at HAp
  have Hr:=Lib.hid hr
  clear hr
  have n1:¬w.heap.size=wr.heap.size:=by omega
  have n2:¬w.heap.size+1=wr.heap.size:=by omega
  have s1:w.heap.size<wr.heap.size+1:=by omega
  have s2:w.heap.size+1<wr.heap.size+1:=by omega
  by_cases he:er=0
  ·subst he
   go_wp2_with (go_at_call 77;(with_reducible refine(HAp.out _).mono ?_);rintro e w2 ⟨rfl,hb2⟩;have HB2:=Lib.hid hb2;obtain⟨hc2,hf2⟩:=arith.Yu hb2;have s3:w.heap.size<w2.heap.size:=Yr hb2 (by first|omega|(simp;done)|(simp;omega));have s4:w.heap.size+1<w2.heap.size:=Yr hb2 (by first|omega|(simp;done)|(simp;omega));have n3:¬w.heap.size=w2.heap.size:=(by omega);have n4:¬w.heap.size+1=w2.heap.size:=(by omega))
   go_roundw
   case rel=>exact⟨k+1,p2,f2,by omega,by go_num,xB HREL.out (xS hd.out Hr.out HA.out) HB2.out⟩
   simp[intOf];omega
  have hne:(er != 0)=true:=by simpa using he
  have E:=Lib.hid (qJ hd.out Hr.out he HA.out)
  clear he
  go_wp2_with (go_at_call 77;(with_reducible refine(HAp.out _).mono ?_);rintro e w2 ⟨rfl,hb2⟩;have HB2:=Lib.hid hb2;obtain⟨hc2,hf2⟩:=arith.Yu hb2;have s3:w.heap.size<w2.heap.size:=Yr hb2 (by first|omega|(simp;done)|(simp;omega));have s4:w.heap.size+1<w2.heap.size:=Yr hb2 (by first|omega|(simp;done)|(simp;omega));have n3:¬w.heap.size=w2.heap.size:=(by omega);have n4:¬w.heap.size+1=w2.heap.size:=(by omega))
  exact bodyPost_ret (v:=.tuple #[.agg #[.int .i64 0,.int .i64 0],.int .i64 er]) (by simp only[results,Tryz.results106];go_simp) rfl ⟨by rw[E.out];rfl,(by repeat (first|exact Below.refl _ _|exact HB.out|(refine Below.setCell ?_ (by first|omega|(simp;done)|(simp;omega)) _)|(refine Below.alloc ?_ (by first|omega|(simp;done)|(simp;omega)) _)|(refine Below.trans ?_ (HB2.out.mono (by first|omega|(simp;done)|(simp;omega))))))⟩
 have hk':k=l.length:=by omega
 have E:Hid (YU p f l=(p',f',0)):=by have:=HA.out;rw[hk',List.drop_length,YU] at this;exact this.symm
 subst hk'
 go_wp2
 exact bodyPost_ret (v:=.tuple #[.agg #[.int .i64 p',.int .i64 f'],.int .i64 0]) (by simp only[results,Tryz.results106];go_simp) rfl ⟨by rw[E.out];rfl,(by repeat (first|exact Below.refl _ _|exact HB.out|(refine Below.setCell ?_ (by first|omega|(simp;done)|(simp;omega)) _)|(refine Below.alloc ?_ (by first|omega|(simp;done)|(simp;omega)) _)))⟩
end Go.Proofs.YtgigilkpndhddaaGreatDoor.clock
