/-
  Parts of the proof: Ref02A.
-/
import Derived.Test.YteaiemfhlpoieaaGreatDoorQ09
import Derived.Test.YteaiemfhlpoieaaGreatDoorQ33
namespace Go.Proofs.YteaiemfhlpoieaaGreatDoor.clock
open Go.RowKit syn
set_option linter.unusedVariables false
set_option linter.unusedSimpArgs false
theorem cells2a {w:World} {b:Nat} {v0 v1:Value} {t:TypeId} (h:w.heap[b]? = some (.cells #[v0,v1] t (0,0))) :
    (w.cell? ⟨b,0,none⟩ = some v0 ∧ w.cell? ⟨b,1,none⟩ = some v1) ∧ ∀ o,w.frozen? ⟨b,o,none⟩ = false:=cells2c h
theorem cells3a {w:World} {b:Nat} {v0 v1 v2:Value} {t:TypeId} (h:w.heap[b]? = some (.cells #[v0,v1,v2] t (0,0))) :
    (w.cell? ⟨b,0,none⟩ = some v0 ∧ w.cell? ⟨b,1,none⟩ = some v1 ∧ w.cell? ⟨b,2,none⟩ = some v2) ∧ ∀ o,w.frozen? ⟨b,o,none⟩ = false:=by
  refine ⟨⟨?_,?_,?_⟩,?_⟩
  all_goals first | (intro o;simp [World.frozen?,h]) | simp [World.cell?,h]
def RApp (p f k n d:Int) (w:World) (a b c:Int):Prop:=Calls Tryz.prog 87 #[.agg #[.int .i64 p,.int .i64 f],.agg #[.int .i64 k,.int .i64 n,.int .i64 d]] w fun e w' => e = .returned (.tuple #[.agg #[.int .i64 a,.int .i64 b],.int .i64 c]) ∧ Below w.heap.size w w'
set_option maxHeartbeats 1000000 in
theorem ra_wrong (p f k n d:Int) (w:World) (h:¬ (1 ≤ p ∧ p ≤ 2000 ∧ 0 ≤ f ∧ f ≤ 2000)):RApp p f k n d w 0 0 12:=by
  unfold RApp
  have HR1:=syn.hid (fun w => refRight_any p f w)
  rw [right_no h] at HR1
  go_enter Tryz.func87,Tryz.ntmps87
  repeat' (first | (go_at_call 42;(with_reducible refine (HR1.out _).mono ?_);rintro e w1 ⟨rfl,hb1⟩;clear HR1;obtain ⟨hc1,hf1⟩:=bcell hb1;have a1:w.heap.size < w1.heap.size:=sz_of hb1 syn.oq;have a2:w.heap.size + 1 < w1.heap.size:=sz_of hb1 syn.oq;have a3:w.heap.size + 1 + 1 < w1.heap.size:=sz_of hb1 syn.oq;have hr1:w1.heap[w.heap.size + 1 + 1]? = some (.cells #[.int .i64 0,.int .i64 0] 53 (0,0)):=(hb1.block _ syn.oq).trans (by simpa using heap_new ((w.alloc _).alloc _) _);have HX1:=syn.hid hr1;have hr0:w1.heap[w.heap.size + 1]? = some (.cells #[.int .i64 k,.int .i64 n,.int .i64 d] 102 (0,0)):=(hb1.block _ syn.oq).trans ((Below.heap_alloc _ _ _ (by simp)).trans (by simpa using heap_new (w.alloc _) _));have HX0:=syn.hid hr0;clear hr1 hr0) | go_values | go_skip | go_guarded | go_step | go_upon | (simp only [Int.not_lt,Int.not_le] at *;go_simp) | (go_values <;> (try go_simp)) | (go_ite <;> go_prune <;> (try go_simp)) | (split <;> (first | (rename_i hx;exact (hx _ rfl).elim) | go_prune)))
  refine bodyPost_ret (v:=.tuple #[.agg #[.int .i64 0,.int .i64 0],.int .i64 12]) (by simp only [results,Tryz.results87];go_simp;try rfl) rfl ⟨?_,?_⟩
  · rfl
  · exact syn.bq
set_option maxHeartbeats 1000000 in
theorem ra_low (p f k n d:Int) (w:World) (h:1 ≤ p ∧ p ≤ 2000 ∧ 0 ≤ f ∧ f ≤ 2000) (hk:k < 3):RApp p f k n d w 0 0 12:=by
  unfold RApp
  have HR1:=syn.hid (fun w => refRight_any p f w)
  rw [right_yes h] at HR1
  go_enter Tryz.func87,Tryz.ntmps87
  repeat' (first | (go_at_call 42;(with_reducible refine (HR1.out _).mono ?_);rintro e w1 ⟨rfl,hb1⟩;clear HR1;obtain ⟨hc1,hf1⟩:=bcell hb1;have a1:w.heap.size < w1.heap.size:=sz_of hb1 syn.oq;have a2:w.heap.size + 1 < w1.heap.size:=sz_of hb1 syn.oq;have a3:w.heap.size + 1 + 1 < w1.heap.size:=sz_of hb1 syn.oq;have hr1:w1.heap[w.heap.size + 1 + 1]? = some (.cells #[.int .i64 0,.int .i64 0] 53 (0,0)):=(hb1.block _ syn.oq).trans (by simpa using heap_new ((w.alloc _).alloc _) _);have HX1:=syn.hid hr1;have hr0:w1.heap[w.heap.size + 1]? = some (.cells #[.int .i64 k,.int .i64 n,.int .i64 d] 102 (0,0)):=(hb1.block _ syn.oq).trans ((Below.heap_alloc _ _ _ (by simp)).trans (by simpa using heap_new (w.alloc _) _));have HX0:=syn.hid hr0;clear hr1 hr0) | go_values | go_skip | go_guarded | go_step | go_upon | (simp only [Int.not_lt,Int.not_le] at *;go_simp) | (go_values <;> (try go_simp)) | (go_ite <;> go_prune <;> (try go_simp)) | (split <;> (first | (rename_i hx;exact (hx _ rfl).elim) | go_prune)))
  refine bodyPost_ret (v:=.tuple #[.agg #[.int .i64 0,.int .i64 0],.int .i64 12]) (by simp only [results,Tryz.results87];go_simp;try rfl) rfl ⟨?_,?_⟩
  · rfl
  · exact syn.bq
set_option maxHeartbeats 1000000 in
theorem ra_high (p f k n d:Int) (w:World) (h:1 ≤ p ∧ p ≤ 2000 ∧ 0 ≤ f ∧ f ≤ 2000) (hk:8 < k):RApp p f k n d w 0 0 12:=by
  unfold RApp
  have HR1:=syn.hid (fun w => refRight_any p f w)
  rw [right_yes h] at HR1
  have hk3:(3:Int) ≤ k:=by omega
  have hk3d:decide (k < 3) = false:=decide_eq_false syn.oq
  go_enter Tryz.func87,Tryz.ntmps87
  repeat' (first | (go_at_call 42;(with_reducible refine (HR1.out _).mono ?_);rintro e w1 ⟨rfl,hb1⟩;clear HR1;obtain ⟨hc1,hf1⟩:=bcell hb1;have a1:w.heap.size < w1.heap.size:=sz_of hb1 syn.oq;have a2:w.heap.size + 1 < w1.heap.size:=sz_of hb1 syn.oq;have a3:w.heap.size + 1 + 1 < w1.heap.size:=sz_of hb1 syn.oq;have hr1:w1.heap[w.heap.size + 1 + 1]? = some (.cells #[.int .i64 0,.int .i64 0] 53 (0,0)):=(hb1.block _ syn.oq).trans (by simpa using heap_new ((w.alloc _).alloc _) _);have HX1:=syn.hid hr1;have hr0:w1.heap[w.heap.size + 1]? = some (.cells #[.int .i64 k,.int .i64 n,.int .i64 d] 102 (0,0)):=(hb1.block _ syn.oq).trans ((Below.heap_alloc _ _ _ (by simp)).trans (by simpa using heap_new (w.alloc _) _));have HX0:=syn.hid hr0;clear hr1 hr0) | go_values | go_skip | go_guarded | go_step | go_upon | (simp only [Int.not_lt,Int.not_le] at *;go_simp) | (go_values <;> (try go_simp)) | (go_ite <;> go_prune <;> (try go_simp)) | (split <;> (first | (rename_i hx;exact (hx _ rfl).elim) | go_prune)))
  refine bodyPost_ret (v:=.tuple #[.agg #[.int .i64 0,.int .i64 0],.int .i64 12]) (by simp only [results,Tryz.results87];go_simp;try rfl) rfl ⟨?_,?_⟩
  · rfl
  · exact syn.bq
set_option maxHeartbeats 1000000 in
theorem ra3_lo (p f k n d:Int) (w:World) (h:1 ≤ p ∧ p ≤ 2000 ∧ 0 ≤ f ∧ f ≤ 2000) (hk:k = 3) (hn:n < 1):RApp p f k n d w 0 0 7:=by
  unfold RApp
  subst hk
  have HR1:=syn.hid (fun w => refRight_any p f w)
  rw [right_yes h] at HR1
  go_enter Tryz.func87,Tryz.ntmps87
  repeat' (first | (go_at_call 42;(with_reducible refine (HR1.out _).mono ?_);rintro e w1 ⟨rfl,hb1⟩;clear HR1;obtain ⟨hc1,hf1⟩:=bcell hb1;have a1:w.heap.size < w1.heap.size:=sz_of hb1 syn.oq;have a2:w.heap.size + 1 < w1.heap.size:=sz_of hb1 syn.oq;have a3:w.heap.size + 1 + 1 < w1.heap.size:=sz_of hb1 syn.oq;have hr1:w1.heap[w.heap.size + 1 + 1]? = some (.cells #[.int .i64 0,.int .i64 0] 53 (0,0)):=(hb1.block _ syn.oq).trans (by simpa using heap_new ((w.alloc _).alloc _) _);have HX1:=syn.hid hr1;have hr0:w1.heap[w.heap.size + 1]? = some (.cells #[.int .i64 3,.int .i64 n,.int .i64 d] 102 (0,0)):=(hb1.block _ syn.oq).trans ((Below.heap_alloc _ _ _ (by simp)).trans (by simpa using heap_new (w.alloc _) _));have HX0:=syn.hid hr0;clear hr1 hr0) | go_values | go_skip | go_guarded | go_step | go_upon | (simp only [Int.not_lt,Int.not_le] at *;go_simp) | (go_values <;> (try go_simp)) | (go_ite <;> go_prune <;> (try go_simp)) | (split <;> (first | (rename_i hx;exact (hx _ rfl).elim) | go_prune)))
  refine bodyPost_ret (v:=.tuple #[.agg #[.int .i64 0,.int .i64 0],.int .i64 7]) (by simp only [results,Tryz.results87];go_simp;try rfl) rfl ⟨?_,?_⟩
  · rfl
  · exact syn.bq
set_option maxHeartbeats 1000000 in
theorem ra3_hi (p f k n d:Int) (w:World) (h:1 ≤ p ∧ p ≤ 2000 ∧ 0 ≤ f ∧ f ≤ 2000) (hk:k = 3) (hn:100 < n):RApp p f k n d w 0 0 7:=by
  unfold RApp
  subst hk
  have HR1:=syn.hid (fun w => refRight_any p f w)
  rw [right_yes h] at HR1
  have hn1:(1:Int) ≤ n:=by omega
  have hn1d:decide (n < 1) = false:=decide_eq_false syn.oq
  go_enter Tryz.func87,Tryz.ntmps87
  repeat' (first | (go_at_call 42;(with_reducible refine (HR1.out _).mono ?_);rintro e w1 ⟨rfl,hb1⟩;clear HR1;obtain ⟨hc1,hf1⟩:=bcell hb1;have a1:w.heap.size < w1.heap.size:=sz_of hb1 syn.oq;have a2:w.heap.size + 1 < w1.heap.size:=sz_of hb1 syn.oq;have a3:w.heap.size + 1 + 1 < w1.heap.size:=sz_of hb1 syn.oq;have hr1:w1.heap[w.heap.size + 1 + 1]? = some (.cells #[.int .i64 0,.int .i64 0] 53 (0,0)):=(hb1.block _ syn.oq).trans (by simpa using heap_new ((w.alloc _).alloc _) _);have HX1:=syn.hid hr1;have hr0:w1.heap[w.heap.size + 1]? = some (.cells #[.int .i64 3,.int .i64 n,.int .i64 d] 102 (0,0)):=(hb1.block _ syn.oq).trans ((Below.heap_alloc _ _ _ (by simp)).trans (by simpa using heap_new (w.alloc _) _));have HX0:=syn.hid hr0;clear hr1 hr0) | go_values | go_skip | go_guarded | go_step | go_upon | (simp only [Int.not_lt,Int.not_le] at *;go_simp) | (go_values <;> (try go_simp)) | (go_ite <;> go_prune <;> (try go_simp)) | (split <;> (first | (rename_i hx;exact (hx _ rfl).elim) | go_prune)))
  refine bodyPost_ret (v:=.tuple #[.agg #[.int .i64 0,.int .i64 0],.int .i64 7]) (by simp only [results,Tryz.results87];go_simp;try rfl) rfl ⟨?_,?_⟩
  · rfl
  · exact syn.bq
set_option maxHeartbeats 1000000 in
theorem ra4_lo (p f k n d:Int) (w:World) (h:1 ≤ p ∧ p ≤ 2000 ∧ 0 ≤ f ∧ f ≤ 2000) (hk:k = 4) (hn:n < 1):RApp p f k n d w 0 0 7:=by
  unfold RApp
  subst hk
  have HR1:=syn.hid (fun w => refRight_any p f w)
  rw [right_yes h] at HR1
  go_enter Tryz.func87,Tryz.ntmps87
  repeat' (first | (go_at_call 42;(with_reducible refine (HR1.out _).mono ?_);rintro e w1 ⟨rfl,hb1⟩;clear HR1;obtain ⟨hc1,hf1⟩:=bcell hb1;have a1:w.heap.size < w1.heap.size:=sz_of hb1 syn.oq;have a2:w.heap.size + 1 < w1.heap.size:=sz_of hb1 syn.oq;have a3:w.heap.size + 1 + 1 < w1.heap.size:=sz_of hb1 syn.oq;have hr1:w1.heap[w.heap.size + 1 + 1]? = some (.cells #[.int .i64 0,.int .i64 0] 53 (0,0)):=(hb1.block _ syn.oq).trans (by simpa using heap_new ((w.alloc _).alloc _) _);have HX1:=syn.hid hr1;have hr0:w1.heap[w.heap.size + 1]? = some (.cells #[.int .i64 4,.int .i64 n,.int .i64 d] 102 (0,0)):=(hb1.block _ syn.oq).trans ((Below.heap_alloc _ _ _ (by simp)).trans (by simpa using heap_new (w.alloc _) _));have HX0:=syn.hid hr0;clear hr1 hr0) | go_values | go_skip | go_guarded | go_step | go_upon | (simp only [Int.not_lt,Int.not_le] at *;go_simp) | (go_values <;> (try go_simp)) | (go_ite <;> go_prune <;> (try go_simp)) | (split <;> (first | (rename_i hx;exact (hx _ rfl).elim) | go_prune)))
  refine bodyPost_ret (v:=.tuple #[.agg #[.int .i64 0,.int .i64 0],.int .i64 7]) (by simp only [results,Tryz.results87];go_simp;try rfl) rfl ⟨?_,?_⟩
  · rfl
  · exact syn.bq
set_option maxHeartbeats 1000000 in
theorem ra4_hi (p f k n d:Int) (w:World) (h:1 ≤ p ∧ p ≤ 2000 ∧ 0 ≤ f ∧ f ≤ 2000) (hk:k = 4) (hn:100 < n):RApp p f k n d w 0 0 7:=by
  unfold RApp
  subst hk
  have HR1:=syn.hid (fun w => refRight_any p f w)
  rw [right_yes h] at HR1
  have hn1:(1:Int) ≤ n:=by omega
  have hn1d:decide (n < 1) = false:=decide_eq_false syn.oq
  go_enter Tryz.func87,Tryz.ntmps87
  repeat' (first | (go_at_call 42;(with_reducible refine (HR1.out _).mono ?_);rintro e w1 ⟨rfl,hb1⟩;clear HR1;obtain ⟨hc1,hf1⟩:=bcell hb1;have a1:w.heap.size < w1.heap.size:=sz_of hb1 syn.oq;have a2:w.heap.size + 1 < w1.heap.size:=sz_of hb1 syn.oq;have a3:w.heap.size + 1 + 1 < w1.heap.size:=sz_of hb1 syn.oq;have hr1:w1.heap[w.heap.size + 1 + 1]? = some (.cells #[.int .i64 0,.int .i64 0] 53 (0,0)):=(hb1.block _ syn.oq).trans (by simpa using heap_new ((w.alloc _).alloc _) _);have HX1:=syn.hid hr1;have hr0:w1.heap[w.heap.size + 1]? = some (.cells #[.int .i64 4,.int .i64 n,.int .i64 d] 102 (0,0)):=(hb1.block _ syn.oq).trans ((Below.heap_alloc _ _ _ (by simp)).trans (by simpa using heap_new (w.alloc _) _));have HX0:=syn.hid hr0;clear hr1 hr0) | go_values | go_skip | go_guarded | go_step | go_upon | (simp only [Int.not_lt,Int.not_le] at *;go_simp) | (go_values <;> (try go_simp)) | (go_ite <;> go_prune <;> (try go_simp)) | (split <;> (first | (rename_i hx;exact (hx _ rfl).elim) | go_prune)))
  refine bodyPost_ret (v:=.tuple #[.agg #[.int .i64 0,.int .i64 0],.int .i64 7]) (by simp only [results,Tryz.results87];go_simp;try rfl) rfl ⟨?_,?_⟩
  · rfl
  · exact syn.bq
set_option maxHeartbeats 1000000 in
theorem ra3_no (p f k n d:Int) (w:World) (h:1 ≤ p ∧ p ≤ 2000 ∧ 0 ≤ f ∧ f ≤ 2000) (hk:k = 3) (hn:1 ≤ n) (hm:n ≤ 100) (hz:¬ p % n = 0):RApp p f k n d w 0 0 5:=by
  unfold RApp
  subst hk
  have HR1:=syn.hid (fun w => refRight_any p f w)
  rw [right_yes h] at HR1
  have hn1d:decide (n < 1) = false:=decide_eq_false syn.oq
  have hn2d:decide (100 < n) = false:=decide_eq_false syn.oq
  have hn0:(n == 0) = false:=beq_eq_false_iff_ne.2 syn.oq
  have hn0':¬ n = 0:=by omega
  have ht:p.tmod n = p % n:=Int.tmod_eq_emod_of_nonneg syn.oq
  have hz':(p % n == 0) = false:=beq_eq_false_iff_ne.2 hz
  have hlt:=Int.emod_lt_of_pos p (show 0 < n by omega)
  have hge:=Int.emod_nonneg p (show n ≠ 0 by omega)
  go_enter Tryz.func87,Tryz.ntmps87
  repeat' (first | (go_at_call 42;(with_reducible refine (HR1.out _).mono ?_);rintro e w1 ⟨rfl,hb1⟩;clear HR1;obtain ⟨hc1,hf1⟩:=bcell hb1;have a1:w.heap.size < w1.heap.size:=sz_of hb1 syn.oq;have a2:w.heap.size + 1 < w1.heap.size:=sz_of hb1 syn.oq;have a3:w.heap.size + 1 + 1 < w1.heap.size:=sz_of hb1 syn.oq;have hr1:w1.heap[w.heap.size + 1 + 1]? = some (.cells #[.int .i64 0,.int .i64 0] 53 (0,0)):=(hb1.block _ syn.oq).trans (by simpa using heap_new ((w.alloc _).alloc _) _);have HX1:=syn.hid hr1;have hr0:w1.heap[w.heap.size + 1]? = some (.cells #[.int .i64 3,.int .i64 n,.int .i64 d] 102 (0,0)):=(hb1.block _ syn.oq).trans ((Below.heap_alloc _ _ _ (by simp)).trans (by simpa using heap_new (w.alloc _) _));have HX0:=syn.hid hr0;clear hr1 hr0) | go_values | go_skip | go_guarded | go_step | go_upon | (simp only [Int.not_lt,Int.not_le] at *;go_simp) | (go_values <;> (try go_simp)) | (go_ite <;> go_prune <;> (try go_simp)) | (split <;> (first | (rename_i hx;exact (hx _ rfl).elim) | go_prune)))
  go_quiet (fail)
  repeat' (first | go_values | go_skip | go_guarded | go_step | go_upon | (simp only [Int.not_lt,Int.not_le] at *;go_simp) | (go_values <;> (try go_simp)) | (go_ite <;> go_prune <;> (try go_simp)) | (split <;> (first | (rename_i hx;exact (hx _ rfl).elim) | go_prune)))
  refine bodyPost_ret (v:=.tuple #[.agg #[.int .i64 0,.int .i64 0],.int .i64 5]) (by simp only [results,Tryz.results87];go_simp;try rfl) rfl ⟨?_,?_⟩
  · rfl
  · exact syn.bq
set_option maxHeartbeats 1000000 in
theorem ra3_yes (p f k n d:Int) (w:World) (h:1 ≤ p ∧ p ≤ 2000 ∧ 0 ≤ f ∧ f ≤ 2000) (hk:k = 3) (hn:1 ≤ n) (hm:n ≤ 100) (hz:p % n = 0):RApp p f k n d w (p / n) f 0:=by
  unfold RApp
  subst hk
  have HR1:=syn.hid (fun w => refRight_any p f w)
  rw [right_yes h] at HR1
  have hn1d:decide (n < 1) = false:=decide_eq_false syn.oq
  have hn2d:decide (100 < n) = false:=decide_eq_false syn.oq
  have hn0:(n == 0) = false:=beq_eq_false_iff_ne.2 syn.oq
  have hn0':¬ n = 0:=by omega
  have ht:p.tmod n = p % n:=Int.tmod_eq_emod_of_nonneg syn.oq
  have hq:p.tdiv n = p / n:=Int.tdiv_eq_ediv_of_nonneg syn.oq
  have hpn:=quo_right (p:=p) (n:=n) syn.oq syn.oq hn hz
  rw [hz] at ht
  have HR2:=syn.hid (fun w => refRight_any (p / n) f w)
  rw [right_yes syn.oq] at HR2
  go_enter Tryz.func87,Tryz.ntmps87
  repeat' (first | (go_at_call 42;(with_reducible refine (HR1.out _).mono ?_);rintro e w1 ⟨rfl,hb1⟩;clear HR1;obtain ⟨hc1,hf1⟩:=bcell hb1;have a1:w.heap.size < w1.heap.size:=sz_of hb1 syn.oq;have a2:w.heap.size + 1 < w1.heap.size:=sz_of hb1 syn.oq;have a3:w.heap.size + 1 + 1 < w1.heap.size:=sz_of hb1 syn.oq;have hr1:w1.heap[w.heap.size + 1 + 1]? = some (.cells #[.int .i64 0,.int .i64 0] 53 (0,0)):=(hb1.block _ syn.oq).trans (by simpa using heap_new ((w.alloc _).alloc _) _);have HX1:=syn.hid hr1;have hr0:w1.heap[w.heap.size + 1]? = some (.cells #[.int .i64 3,.int .i64 n,.int .i64 d] 102 (0,0)):=(hb1.block _ syn.oq).trans ((Below.heap_alloc _ _ _ (by simp)).trans (by simpa using heap_new (w.alloc _) _));have HX0:=syn.hid hr0;clear hr1 hr0) | go_values | go_skip | go_guarded | go_step | go_upon | (simp only [Int.not_lt,Int.not_le] at *;go_simp) | (go_values <;> (try go_simp)) | (go_ite <;> go_prune <;> (try go_simp)) | (split <;> (first | (rename_i hx;exact (hx _ rfl).elim) | go_prune)))
  go_region
  generalize hw3:World.drew w1 = w3
  have hb3:Below w1.heap.size w1 w3:=by rw [← hw3];exact (Below.refl _ _).drew
  have s3:w.heap.size + 1 + 1 < w3.heap.size:=by rw [← hw3];exact a3
  have HX3:=syn.hid ((hb3.block _ a3).trans HX1.out)
  have HX4:=syn.hid ((hb3.block _ a2).trans HX0.out)
  obtain ⟨⟨r0,r1⟩,rf⟩:=cells2a HX3.out
  obtain ⟨⟨o0,o1,o2⟩,of_⟩:=cells3a HX4.out
  clear hw3 hc1 hf1
  repeat' (first | (go_at_call 42;(with_reducible refine (HR2.out _).mono ?_);rintro e w2 ⟨rfl,hb2⟩;obtain ⟨⟨u0,u1⟩,uf⟩:=cells2a ((hb2.block w3.heap.size syn.oq).trans (heap_new w3 _));obtain ⟨⟨v0,v1⟩,vf⟩:=cells2a ((hb2.block (w.heap.size + 1 + 1) syn.oq).trans ((Below.heap_alloc _ _ _ s3).trans HX3.out));have a4:w3.heap.size < w2.heap.size:=sz_of hb2 syn.oq;have a5:w.heap.size + 1 + 1 < w2.heap.size:=sz_of hb2 syn.oq) | go_values | go_skip | go_guarded | go_step | go_upon | (simp only [Int.not_lt,Int.not_le] at *;go_simp) | (go_values <;> (try go_simp)) | (go_ite <;> go_prune <;> (try go_simp)) | (split <;> (first | (rename_i hx;exact (hx _ rfl).elim) | go_prune)))
  refine bodyPost_ret (v:=.tuple #[.agg #[.int .i64 (p / n),.int .i64 f],.int .i64 0]) (by simp only [results,Tryz.results87];go_simp;try rfl) rfl ⟨?_,?_⟩
  · rfl
  · exact syn.bq
set_option maxHeartbeats 1000000 in
theorem ra4_yes (p f k n d:Int) (w:World) (h:1 ≤ p ∧ p ≤ 2000 ∧ 0 ≤ f ∧ f ≤ 2000) (hk:k = 4) (hn:1 ≤ n) (hm:n ≤ 100) (hz:p * n ≤ 2000):RApp p f k n d w (p * n) f 0:=by
  unfold RApp
  subst hk
  have HR1:=syn.hid (fun w => refRight_any p f w)
  rw [right_yes h] at HR1
  have hn1d:decide (n < 1) = false:=decide_eq_false syn.oq
  have hn2d:decide (100 < n) = false:=decide_eq_false syn.oq
  have hn0:(n == 0) = false:=beq_eq_false_iff_ne.2 syn.oq
  have hn0':¬ n = 0:=by omega
  have hp1:=mul_ge (p:=p) (n:=n) syn.oq hn
  have HR2:=syn.hid (fun w => refRight_any (p * n) f w)
  rw [right_yes syn.oq] at HR2
  go_enter Tryz.func87,Tryz.ntmps87
  repeat' (first | (go_at_call 42;(with_reducible refine (HR1.out _).mono ?_);rintro e w1 ⟨rfl,hb1⟩;clear HR1;obtain ⟨hc1,hf1⟩:=bcell hb1;have a1:w.heap.size < w1.heap.size:=sz_of hb1 syn.oq;have a2:w.heap.size + 1 < w1.heap.size:=sz_of hb1 syn.oq;have a3:w.heap.size + 1 + 1 < w1.heap.size:=sz_of hb1 syn.oq;have hr1:w1.heap[w.heap.size + 1 + 1]? = some (.cells #[.int .i64 0,.int .i64 0] 53 (0,0)):=(hb1.block _ syn.oq).trans (by simpa using heap_new ((w.alloc _).alloc _) _);have HX1:=syn.hid hr1;have hr0:w1.heap[w.heap.size + 1]? = some (.cells #[.int .i64 4,.int .i64 n,.int .i64 d] 102 (0,0)):=(hb1.block _ syn.oq).trans ((Below.heap_alloc _ _ _ (by simp)).trans (by simpa using heap_new (w.alloc _) _));have HX0:=syn.hid hr0;clear hr1 hr0) | go_values | go_skip | go_guarded | go_step | go_upon | (simp only [Int.not_lt,Int.not_le] at *;go_simp) | (go_values <;> (try go_simp)) | (go_ite <;> go_prune <;> (try go_simp)) | (split <;> (first | (rename_i hx;exact (hx _ rfl).elim) | go_prune)))
  go_region
  generalize hw3:World.drew w1 = w3
  have hb3:Below w1.heap.size w1 w3:=by rw [← hw3];exact (Below.refl _ _).drew
  have s3:w.heap.size + 1 + 1 < w3.heap.size:=by rw [← hw3];exact a3
  have HX3:=syn.hid ((hb3.block _ a3).trans HX1.out)
  have HX4:=syn.hid ((hb3.block _ a2).trans HX0.out)
  obtain ⟨⟨r0,r1⟩,rf⟩:=cells2a HX3.out
  obtain ⟨⟨o0,o1,o2⟩,of_⟩:=cells3a HX4.out
  clear hw3 hc1 hf1
  repeat' (first | (go_at_call 42;(with_reducible refine (HR2.out _).mono ?_);rintro e w2 ⟨rfl,hb2⟩;obtain ⟨⟨u0,u1⟩,uf⟩:=cells2a ((hb2.block w3.heap.size syn.oq).trans (heap_new w3 _));obtain ⟨⟨v0,v1⟩,vf⟩:=cells2a ((hb2.block (w.heap.size + 1 + 1) syn.oq).trans ((Below.heap_alloc _ _ _ s3).trans HX3.out));have a4:w3.heap.size < w2.heap.size:=sz_of hb2 syn.oq;have a5:w.heap.size + 1 + 1 < w2.heap.size:=sz_of hb2 syn.oq) | go_values | go_skip | go_guarded | go_step | go_upon | (simp only [Int.not_lt,Int.not_le] at *;go_simp) | (go_values <;> (try go_simp)) | (go_ite <;> go_prune <;> (try go_simp)) | (split <;> (first | (rename_i hx;exact (hx _ rfl).elim) | go_prune)))
  refine bodyPost_ret (v:=.tuple #[.agg #[.int .i64 (p * n),.int .i64 f],.int .i64 0]) (by simp only [results,Tryz.results87];go_simp;try rfl) rfl ⟨?_,?_⟩
  · rfl
  · exact syn.bq
set_option maxHeartbeats 1000000 in
theorem ra4_no (p f k n d:Int) (w:World) (h:1 ≤ p ∧ p ≤ 2000 ∧ 0 ≤ f ∧ f ≤ 2000) (hk:k = 4) (hn:1 ≤ n) (hm:n ≤ 100) (hz:¬ p * n ≤ 2000):RApp p f k n d w 0 0 7:=by
  unfold RApp
  subst hk
  have HR1:=syn.hid (fun w => refRight_any p f w)
  rw [right_yes h] at HR1
  have hn1d:decide (n < 1) = false:=decide_eq_false syn.oq
  have hn2d:decide (100 < n) = false:=decide_eq_false syn.oq
  have hn0:(n == 0) = false:=beq_eq_false_iff_ne.2 syn.oq
  have hn0':¬ n = 0:=by omega
  have hp2:=(mul_bd (p:=p) (n:=n) syn.oq syn.oq syn.oq syn.oq).2
  have HR2:=syn.hid (fun w => refRight_any (p * n) f w)
  rw [right_no syn.oq] at HR2
  go_enter Tryz.func87,Tryz.ntmps87
  repeat' (first | (go_at_call 42;(with_reducible refine (HR1.out _).mono ?_);rintro e w1 ⟨rfl,hb1⟩;clear HR1;obtain ⟨hc1,hf1⟩:=bcell hb1;have a1:w.heap.size < w1.heap.size:=sz_of hb1 syn.oq;have a2:w.heap.size + 1 < w1.heap.size:=sz_of hb1 syn.oq;have a3:w.heap.size + 1 + 1 < w1.heap.size:=sz_of hb1 syn.oq;have hr1:w1.heap[w.heap.size + 1 + 1]? = some (.cells #[.int .i64 0,.int .i64 0] 53 (0,0)):=(hb1.block _ syn.oq).trans (by simpa using heap_new ((w.alloc _).alloc _) _);have HX1:=syn.hid hr1;have hr0:w1.heap[w.heap.size + 1]? = some (.cells #[.int .i64 4,.int .i64 n,.int .i64 d] 102 (0,0)):=(hb1.block _ syn.oq).trans ((Below.heap_alloc _ _ _ (by simp)).trans (by simpa using heap_new (w.alloc _) _));have HX0:=syn.hid hr0;clear hr1 hr0) | go_values | go_skip | go_guarded | go_step | go_upon | (simp only [Int.not_lt,Int.not_le] at *;go_simp) | (go_values <;> (try go_simp)) | (go_ite <;> go_prune <;> (try go_simp)) | (split <;> (first | (rename_i hx;exact (hx _ rfl).elim) | go_prune)))
  go_region
  generalize hw3:World.drew w1 = w3
  have hb3:Below w1.heap.size w1 w3:=by rw [← hw3];exact (Below.refl _ _).drew
  have s3:w.heap.size + 1 + 1 < w3.heap.size:=by rw [← hw3];exact a3
  have HX3:=syn.hid ((hb3.block _ a3).trans HX1.out)
  have HX4:=syn.hid ((hb3.block _ a2).trans HX0.out)
  obtain ⟨⟨r0,r1⟩,rf⟩:=cells2a HX3.out
  obtain ⟨⟨o0,o1,o2⟩,of_⟩:=cells3a HX4.out
  clear hw3 hc1 hf1
  repeat' (first | (go_at_call 42;(with_reducible refine (HR2.out _).mono ?_);rintro e w2 ⟨rfl,hb2⟩;obtain ⟨⟨u0,u1⟩,uf⟩:=cells2a ((hb2.block w3.heap.size syn.oq).trans (heap_new w3 _));obtain ⟨⟨v0,v1⟩,vf⟩:=cells2a ((hb2.block (w.heap.size + 1 + 1) syn.oq).trans ((Below.heap_alloc _ _ _ s3).trans HX3.out));have a4:w3.heap.size < w2.heap.size:=sz_of hb2 syn.oq;have a5:w.heap.size + 1 + 1 < w2.heap.size:=sz_of hb2 syn.oq) | go_values | go_skip | go_guarded | go_step | go_upon | (simp only [Int.not_lt,Int.not_le] at *;go_simp) | (go_values <;> (try go_simp)) | (go_ite <;> go_prune <;> (try go_simp)) | (split <;> (first | (rename_i hx;exact (hx _ rfl).elim) | go_prune)))
  refine bodyPost_ret (v:=.tuple #[.agg #[.int .i64 0,.int .i64 0],.int .i64 7]) (by simp only [results,Tryz.results87];go_simp;try rfl) rfl ⟨?_,?_⟩
  · rfl
  · exact syn.bq
set_option maxHeartbeats 1000000 in
theorem ra5_nlo (p f k n d:Int) (w:World) (h:1 ≤ p ∧ p ≤ 2000 ∧ 0 ≤ f ∧ f ≤ 2000) (hk:k = 5) (hn:n < 0):RApp p f k n d w 0 0 7:=by
  unfold RApp
  subst hk
  have HR1:=syn.hid (fun w => refRight_any p f w)
  rw [right_yes h] at HR1
  go_enter Tryz.func87,Tryz.ntmps87
  repeat' (first | (go_at_call 42;(with_reducible refine (HR1.out _).mono ?_);rintro e w1 ⟨rfl,hb1⟩;clear HR1;obtain ⟨hc1,hf1⟩:=bcell hb1;have a1:w.heap.size < w1.heap.size:=sz_of hb1 syn.oq;have a2:w.heap.size + 1 < w1.heap.size:=sz_of hb1 syn.oq;have a3:w.heap.size + 1 + 1 < w1.heap.size:=sz_of hb1 syn.oq;have hr1:w1.heap[w.heap.size + 1 + 1]? = some (.cells #[.int .i64 0,.int .i64 0] 53 (0,0)):=(hb1.block _ syn.oq).trans (by simpa using heap_new ((w.alloc _).alloc _) _);have HX1:=syn.hid hr1;have hr0:w1.heap[w.heap.size + 1]? = some (.cells #[.int .i64 5,.int .i64 n,.int .i64 d] 102 (0,0)):=(hb1.block _ syn.oq).trans ((Below.heap_alloc _ _ _ (by simp)).trans (by simpa using heap_new (w.alloc _) _));have HX0:=syn.hid hr0;clear hr1 hr0) | go_values | go_skip | go_guarded | go_step | go_upon | (simp only [Int.not_lt,Int.not_le] at *;go_simp) | (go_values <;> (try go_simp)) | (go_ite <;> go_prune <;> (try go_simp)) | (split <;> (first | (rename_i hx;exact (hx _ rfl).elim) | go_prune)))
  refine bodyPost_ret (v:=.tuple #[.agg #[.int .i64 0,.int .i64 0],.int .i64 7]) (by simp only [results,Tryz.results87];go_simp;try rfl) rfl ⟨?_,?_⟩
  · rfl
  · exact syn.bq
set_option maxHeartbeats 1000000 in
theorem ra5_nhi (p f k n d:Int) (w:World) (h:1 ≤ p ∧ p ≤ 2000 ∧ 0 ≤ f ∧ f ≤ 2000) (hk:k = 5) (hn:100 < n):RApp p f k n d w 0 0 7:=by
  unfold RApp
  subst hk
  have HR1:=syn.hid (fun w => refRight_any p f w)
  rw [right_yes h] at HR1
  have hn1:(0:Int) ≤ n:=by omega
  have hn1d:decide (n < 0) = false:=decide_eq_false syn.oq
  go_enter Tryz.func87,Tryz.ntmps87
  repeat' (first | (go_at_call 42;(with_reducible refine (HR1.out _).mono ?_);rintro e w1 ⟨rfl,hb1⟩;clear HR1;obtain ⟨hc1,hf1⟩:=bcell hb1;have a1:w.heap.size < w1.heap.size:=sz_of hb1 syn.oq;have a2:w.heap.size + 1 < w1.heap.size:=sz_of hb1 syn.oq;have a3:w.heap.size + 1 + 1 < w1.heap.size:=sz_of hb1 syn.oq;have hr1:w1.heap[w.heap.size + 1 + 1]? = some (.cells #[.int .i64 0,.int .i64 0] 53 (0,0)):=(hb1.block _ syn.oq).trans (by simpa using heap_new ((w.alloc _).alloc _) _);have HX1:=syn.hid hr1;have hr0:w1.heap[w.heap.size + 1]? = some (.cells #[.int .i64 5,.int .i64 n,.int .i64 d] 102 (0,0)):=(hb1.block _ syn.oq).trans ((Below.heap_alloc _ _ _ (by simp)).trans (by simpa using heap_new (w.alloc _) _));have HX0:=syn.hid hr0;clear hr1 hr0) | go_values | go_skip | go_guarded | go_step | go_upon | (simp only [Int.not_lt,Int.not_le] at *;go_simp) | (go_values <;> (try go_simp)) | (go_ite <;> go_prune <;> (try go_simp)) | (split <;> (first | (rename_i hx;exact (hx _ rfl).elim) | go_prune)))
  refine bodyPost_ret (v:=.tuple #[.agg #[.int .i64 0,.int .i64 0],.int .i64 7]) (by simp only [results,Tryz.results87];go_simp;try rfl) rfl ⟨?_,?_⟩
  · rfl
  · exact syn.bq
set_option maxHeartbeats 1000000 in
theorem ra5_dlo (p f k n d:Int) (w:World) (h:1 ≤ p ∧ p ≤ 2000 ∧ 0 ≤ f ∧ f ≤ 2000) (hk:k = 5) (hn:0 ≤ n) (hm:n ≤ 100) (hd:d < 1):RApp p f k n d w 0 0 7:=by
  unfold RApp
  subst hk
  have HR1:=syn.hid (fun w => refRight_any p f w)
  rw [right_yes h] at HR1
  have hn1d:decide (n < 0) = false:=decide_eq_false syn.oq
  have hn2d:decide (100 < n) = false:=decide_eq_false syn.oq
  go_enter Tryz.func87,Tryz.ntmps87
  repeat' (first | (go_at_call 42;(with_reducible refine (HR1.out _).mono ?_);rintro e w1 ⟨rfl,hb1⟩;clear HR1;obtain ⟨hc1,hf1⟩:=bcell hb1;have a1:w.heap.size < w1.heap.size:=sz_of hb1 syn.oq;have a2:w.heap.size + 1 < w1.heap.size:=sz_of hb1 syn.oq;have a3:w.heap.size + 1 + 1 < w1.heap.size:=sz_of hb1 syn.oq;have hr1:w1.heap[w.heap.size + 1 + 1]? = some (.cells #[.int .i64 0,.int .i64 0] 53 (0,0)):=(hb1.block _ syn.oq).trans (by simpa using heap_new ((w.alloc _).alloc _) _);have HX1:=syn.hid hr1;have hr0:w1.heap[w.heap.size + 1]? = some (.cells #[.int .i64 5,.int .i64 n,.int .i64 d] 102 (0,0)):=(hb1.block _ syn.oq).trans ((Below.heap_alloc _ _ _ (by simp)).trans (by simpa using heap_new (w.alloc _) _));have HX0:=syn.hid hr0;clear hr1 hr0) | go_values | go_skip | go_guarded | go_step | go_upon | (simp only [Int.not_lt,Int.not_le] at *;go_simp) | (go_values <;> (try go_simp)) | (go_ite <;> go_prune <;> (try go_simp)) | (split <;> (first | (rename_i hx;exact (hx _ rfl).elim) | go_prune)))
  refine bodyPost_ret (v:=.tuple #[.agg #[.int .i64 0,.int .i64 0],.int .i64 7]) (by simp only [results,Tryz.results87];go_simp;try rfl) rfl ⟨?_,?_⟩
  · rfl
  · exact syn.bq
set_option maxHeartbeats 1000000 in
theorem ra5_dhi (p f k n d:Int) (w:World) (h:1 ≤ p ∧ p ≤ 2000 ∧ 0 ≤ f ∧ f ≤ 2000) (hk:k = 5) (hn:0 ≤ n) (hm:n ≤ 100) (hd:100 < d):RApp p f k n d w 0 0 7:=by
  unfold RApp
  subst hk
  have HR1:=syn.hid (fun w => refRight_any p f w)
  rw [right_yes h] at HR1
  have hn1d:decide (n < 0) = false:=decide_eq_false syn.oq
  have hn2d:decide (100 < n) = false:=decide_eq_false syn.oq
  have hd1:(1:Int) ≤ d:=by omega
  have hd1d:decide (d < 1) = false:=decide_eq_false syn.oq
  go_enter Tryz.func87,Tryz.ntmps87
  repeat' (first | (go_at_call 42;(with_reducible refine (HR1.out _).mono ?_);rintro e w1 ⟨rfl,hb1⟩;clear HR1;obtain ⟨hc1,hf1⟩:=bcell hb1;have a1:w.heap.size < w1.heap.size:=sz_of hb1 syn.oq;have a2:w.heap.size + 1 < w1.heap.size:=sz_of hb1 syn.oq;have a3:w.heap.size + 1 + 1 < w1.heap.size:=sz_of hb1 syn.oq;have hr1:w1.heap[w.heap.size + 1 + 1]? = some (.cells #[.int .i64 0,.int .i64 0] 53 (0,0)):=(hb1.block _ syn.oq).trans (by simpa using heap_new ((w.alloc _).alloc _) _);have HX1:=syn.hid hr1;have hr0:w1.heap[w.heap.size + 1]? = some (.cells #[.int .i64 5,.int .i64 n,.int .i64 d] 102 (0,0)):=(hb1.block _ syn.oq).trans ((Below.heap_alloc _ _ _ (by simp)).trans (by simpa using heap_new (w.alloc _) _));have HX0:=syn.hid hr0;clear hr1 hr0) | go_values | go_skip | go_guarded | go_step | go_upon | (simp only [Int.not_lt,Int.not_le] at *;go_simp) | (go_values <;> (try go_simp)) | (go_ite <;> go_prune <;> (try go_simp)) | (split <;> (first | (rename_i hx;exact (hx _ rfl).elim) | go_prune)))
  refine bodyPost_ret (v:=.tuple #[.agg #[.int .i64 0,.int .i64 0],.int .i64 7]) (by simp only [results,Tryz.results87];go_simp;try rfl) rfl ⟨?_,?_⟩
  · rfl
  · exact syn.bq
set_option maxHeartbeats 1000000 in
theorem ra5_no (p f k n d:Int) (w:World) (h:1 ≤ p ∧ p ≤ 2000 ∧ 0 ≤ f ∧ f ≤ 2000) (hk:k = 5) (hn:0 ≤ n) (hm:n ≤ 100) (hd:1 ≤ d) (he:d ≤ 100) (hz:¬ p * n % d = 0):RApp p f k n d w 0 0 5:=by
  unfold RApp
  subst hk
  have HR1:=syn.hid (fun w => refRight_any p f w)
  rw [right_yes h] at HR1
  have hn1d:decide (n < 0) = false:=decide_eq_false syn.oq
  have hn2d:decide (100 < n) = false:=decide_eq_false syn.oq
  have hd1d:decide (d < 1) = false:=decide_eq_false syn.oq
  have hd2d:decide (100 < d) = false:=decide_eq_false syn.oq
  have hd0:(d == 0) = false:=beq_eq_false_iff_ne.2 syn.oq
  have hd0':¬ d = 0:=by omega
  have hpn0:0 ≤ p * n:=Int.mul_nonneg syn.oq hn
  have hpn2:=(mul_bd (p:=p) (n:=n) syn.oq syn.oq syn.oq syn.oq).2
  have ht:(p * n).tmod d = p * n % d:=Int.tmod_eq_emod_of_nonneg hpn0
  have hz':(p * n % d == 0) = false:=beq_eq_false_iff_ne.2 hz
  have hlt:=Int.emod_lt_of_pos (p * n) (show 0 < d by omega)
  have hge:=Int.emod_nonneg (p * n) (show d ≠ 0 by omega)
  go_enter Tryz.func87,Tryz.ntmps87
  repeat' (first | (go_at_call 42;(with_reducible refine (HR1.out _).mono ?_);rintro e w1 ⟨rfl,hb1⟩;clear HR1;obtain ⟨hc1,hf1⟩:=bcell hb1;have a1:w.heap.size < w1.heap.size:=sz_of hb1 syn.oq;have a2:w.heap.size + 1 < w1.heap.size:=sz_of hb1 syn.oq;have a3:w.heap.size + 1 + 1 < w1.heap.size:=sz_of hb1 syn.oq;have hr1:w1.heap[w.heap.size + 1 + 1]? = some (.cells #[.int .i64 0,.int .i64 0] 53 (0,0)):=(hb1.block _ syn.oq).trans (by simpa using heap_new ((w.alloc _).alloc _) _);have HX1:=syn.hid hr1;have hr0:w1.heap[w.heap.size + 1]? = some (.cells #[.int .i64 5,.int .i64 n,.int .i64 d] 102 (0,0)):=(hb1.block _ syn.oq).trans ((Below.heap_alloc _ _ _ (by simp)).trans (by simpa using heap_new (w.alloc _) _));have HX0:=syn.hid hr0;clear hr1 hr0) | go_values | go_skip | go_guarded | go_step | go_upon | (simp only [Int.not_lt,Int.not_le] at *;go_simp) | (go_values <;> (try go_simp)) | (go_ite <;> go_prune <;> (try go_simp)) | (split <;> (first | (rename_i hx;exact (hx _ rfl).elim) | go_prune)))
  go_quiet (fail)
  repeat' (first | go_values | go_skip | go_guarded | go_step | go_upon | (simp only [Int.not_lt,Int.not_le] at *;go_simp) | (go_values <;> (try go_simp)) | (go_ite <;> go_prune <;> (try go_simp)) | (split <;> (first | (rename_i hx;exact (hx _ rfl).elim) | go_prune)))
  refine bodyPost_ret (v:=.tuple #[.agg #[.int .i64 0,.int .i64 0],.int .i64 5]) (by simp only [results,Tryz.results87];go_simp;try rfl) rfl ⟨?_,?_⟩
  · rfl
  · exact syn.bq
set_option maxHeartbeats 1000000 in
theorem ra5_yes (p f k n d:Int) (w:World) (h:1 ≤ p ∧ p ≤ 2000 ∧ 0 ≤ f ∧ f ≤ 2000) (hk:k = 5) (hn:0 ≤ n) (hm:n ≤ 100) (hd:1 ≤ d) (he:d ≤ 100) (hz:p * n % d = 0) (hl:f + p * n / d ≤ 2000):RApp p f k n d w p (f + p * n / d) 0:=by
  unfold RApp
  subst hk
  have HR1:=syn.hid (fun w => refRight_any p f w)
  rw [right_yes h] at HR1
  have hn1d:decide (n < 0) = false:=decide_eq_false syn.oq
  have hn2d:decide (100 < n) = false:=decide_eq_false syn.oq
  have hd1d:decide (d < 1) = false:=decide_eq_false syn.oq
  have hd2d:decide (100 < d) = false:=decide_eq_false syn.oq
  have hd0:(d == 0) = false:=beq_eq_false_iff_ne.2 syn.oq
  have hd0':¬ d = 0:=by omega
  have hpn0:0 ≤ p * n:=Int.mul_nonneg syn.oq hn
  have hpn2:=(mul_bd (p:=p) (n:=n) syn.oq syn.oq syn.oq syn.oq).2
  have ht:(p * n).tmod d = p * n % d:=Int.tmod_eq_emod_of_nonneg hpn0
  have hq:(p * n).tdiv d = p * n / d:=Int.tdiv_eq_ediv_of_nonneg hpn0
  have hq0:0 ≤ p * n / d:=Int.ediv_nonneg hpn0 syn.oq
  have hq1:=(quo_bd (x:=p * n) (d:=d) syn.oq hpn2 hd).2
  rw [hz] at ht
  have HR2:=syn.hid (fun w => refRight_any p (f + p * n / d) w)
  rw [right_yes syn.oq] at HR2
  go_enter Tryz.func87,Tryz.ntmps87
  repeat' (first | (go_at_call 42;(with_reducible refine (HR1.out _).mono ?_);rintro e w1 ⟨rfl,hb1⟩;clear HR1;obtain ⟨hc1,hf1⟩:=bcell hb1;have a1:w.heap.size < w1.heap.size:=sz_of hb1 syn.oq;have a2:w.heap.size + 1 < w1.heap.size:=sz_of hb1 syn.oq;have a3:w.heap.size + 1 + 1 < w1.heap.size:=sz_of hb1 syn.oq;have hr1:w1.heap[w.heap.size + 1 + 1]? = some (.cells #[.int .i64 0,.int .i64 0] 53 (0,0)):=(hb1.block _ syn.oq).trans (by simpa using heap_new ((w.alloc _).alloc _) _);have HX1:=syn.hid hr1;have hr0:w1.heap[w.heap.size + 1]? = some (.cells #[.int .i64 5,.int .i64 n,.int .i64 d] 102 (0,0)):=(hb1.block _ syn.oq).trans ((Below.heap_alloc _ _ _ (by simp)).trans (by simpa using heap_new (w.alloc _) _));have HX0:=syn.hid hr0;clear hr1 hr0) | go_values | go_skip | go_guarded | go_step | go_upon | (simp only [Int.not_lt,Int.not_le] at *;go_simp) | (go_values <;> (try go_simp)) | (go_ite <;> go_prune <;> (try go_simp)) | (split <;> (first | (rename_i hx;exact (hx _ rfl).elim) | go_prune)))
  go_region
  generalize hw3:World.drew w1 = w3
  have hb3:Below w1.heap.size w1 w3:=by rw [← hw3];exact (Below.refl _ _).drew
  have s3:w.heap.size + 1 + 1 < w3.heap.size:=by rw [← hw3];exact a3
  have HX3:=syn.hid ((hb3.block _ a3).trans HX1.out)
  have HX4:=syn.hid ((hb3.block _ a2).trans HX0.out)
  obtain ⟨⟨r0,r1⟩,rf⟩:=cells2a HX3.out
  obtain ⟨⟨o0,o1,o2⟩,of_⟩:=cells3a HX4.out
  clear hw3 hc1 hf1
  repeat' (first | (go_at_call 42;(with_reducible refine (HR2.out _).mono ?_);rintro e w2 ⟨rfl,hb2⟩;obtain ⟨⟨u0,u1⟩,uf⟩:=cells2a ((hb2.block w3.heap.size syn.oq).trans (heap_new w3 _));obtain ⟨⟨v0,v1⟩,vf⟩:=cells2a ((hb2.block (w.heap.size + 1 + 1) syn.oq).trans ((Below.heap_alloc _ _ _ s3).trans HX3.out));have a4:w3.heap.size < w2.heap.size:=sz_of hb2 syn.oq;have a5:w.heap.size + 1 + 1 < w2.heap.size:=sz_of hb2 syn.oq) | go_values | go_skip | go_guarded | go_step | go_upon | (simp only [Int.not_lt,Int.not_le] at *;go_simp) | (go_values <;> (try go_simp)) | (go_ite <;> go_prune <;> (try go_simp)) | (split <;> (first | (rename_i hx;exact (hx _ rfl).elim) | go_prune)))
  refine bodyPost_ret (v:=.tuple #[.agg #[.int .i64 p,.int .i64 (f + p * n / d)],.int .i64 0]) (by simp only [results,Tryz.results87];go_simp;try rfl) rfl ⟨?_,?_⟩
  · rfl
  · exact syn.bq
set_option maxHeartbeats 1000000 in
theorem ra5_far (p f k n d:Int) (w:World) (h:1 ≤ p ∧ p ≤ 2000 ∧ 0 ≤ f ∧ f ≤ 2000) (hk:k = 5) (hn:0 ≤ n) (hm:n ≤ 100) (hd:1 ≤ d) (he:d ≤ 100) (hz:p * n % d = 0) (hl:¬ f + p * n / d ≤ 2000):RApp p f k n d w 0 0 7:=by
  unfold RApp
  subst hk
  have HR1:=syn.hid (fun w => refRight_any p f w)
  rw [right_yes h] at HR1
  have hn1d:decide (n < 0) = false:=decide_eq_false syn.oq
  have hn2d:decide (100 < n) = false:=decide_eq_false syn.oq
  have hd1d:decide (d < 1) = false:=decide_eq_false syn.oq
  have hd2d:decide (100 < d) = false:=decide_eq_false syn.oq
  have hd0:(d == 0) = false:=beq_eq_false_iff_ne.2 syn.oq
  have hd0':¬ d = 0:=by omega
  have hpn0:0 ≤ p * n:=Int.mul_nonneg syn.oq hn
  have hpn2:=(mul_bd (p:=p) (n:=n) syn.oq syn.oq syn.oq syn.oq).2
  have ht:(p * n).tmod d = p * n % d:=Int.tmod_eq_emod_of_nonneg hpn0
  have hq:(p * n).tdiv d = p * n / d:=Int.tdiv_eq_ediv_of_nonneg hpn0
  have hq0:0 ≤ p * n / d:=Int.ediv_nonneg hpn0 syn.oq
  have hq1:=(quo_bd (x:=p * n) (d:=d) syn.oq hpn2 hd).2
  rw [hz] at ht
  have HR2:=syn.hid (fun w => refRight_any p (f + p * n / d) w)
  rw [right_no syn.oq] at HR2
  go_enter Tryz.func87,Tryz.ntmps87
  repeat' (first | (go_at_call 42;(with_reducible refine (HR1.out _).mono ?_);rintro e w1 ⟨rfl,hb1⟩;clear HR1;obtain ⟨hc1,hf1⟩:=bcell hb1;have a1:w.heap.size < w1.heap.size:=sz_of hb1 syn.oq;have a2:w.heap.size + 1 < w1.heap.size:=sz_of hb1 syn.oq;have a3:w.heap.size + 1 + 1 < w1.heap.size:=sz_of hb1 syn.oq;have hr1:w1.heap[w.heap.size + 1 + 1]? = some (.cells #[.int .i64 0,.int .i64 0] 53 (0,0)):=(hb1.block _ syn.oq).trans (by simpa using heap_new ((w.alloc _).alloc _) _);have HX1:=syn.hid hr1;have hr0:w1.heap[w.heap.size + 1]? = some (.cells #[.int .i64 5,.int .i64 n,.int .i64 d] 102 (0,0)):=(hb1.block _ syn.oq).trans ((Below.heap_alloc _ _ _ (by simp)).trans (by simpa using heap_new (w.alloc _) _));have HX0:=syn.hid hr0;clear hr1 hr0) | go_values | go_skip | go_guarded | go_step | go_upon | (simp only [Int.not_lt,Int.not_le] at *;go_simp) | (go_values <;> (try go_simp)) | (go_ite <;> go_prune <;> (try go_simp)) | (split <;> (first | (rename_i hx;exact (hx _ rfl).elim) | go_prune)))
  go_region
  generalize hw3:World.drew w1 = w3
  have hb3:Below w1.heap.size w1 w3:=by rw [← hw3];exact (Below.refl _ _).drew
  have s3:w.heap.size + 1 + 1 < w3.heap.size:=by rw [← hw3];exact a3
  have HX3:=syn.hid ((hb3.block _ a3).trans HX1.out)
  have HX4:=syn.hid ((hb3.block _ a2).trans HX0.out)
  obtain ⟨⟨r0,r1⟩,rf⟩:=cells2a HX3.out
  obtain ⟨⟨o0,o1,o2⟩,of_⟩:=cells3a HX4.out
  clear hw3 hc1 hf1
  repeat' (first | (go_at_call 42;(with_reducible refine (HR2.out _).mono ?_);rintro e w2 ⟨rfl,hb2⟩;obtain ⟨⟨u0,u1⟩,uf⟩:=cells2a ((hb2.block w3.heap.size syn.oq).trans (heap_new w3 _));obtain ⟨⟨v0,v1⟩,vf⟩:=cells2a ((hb2.block (w.heap.size + 1 + 1) syn.oq).trans ((Below.heap_alloc _ _ _ s3).trans HX3.out));have a4:w3.heap.size < w2.heap.size:=sz_of hb2 syn.oq;have a5:w.heap.size + 1 + 1 < w2.heap.size:=sz_of hb2 syn.oq) | go_values | go_skip | go_guarded | go_step | go_upon | (simp only [Int.not_lt,Int.not_le] at *;go_simp) | (go_values <;> (try go_simp)) | (go_ite <;> go_prune <;> (try go_simp)) | (split <;> (first | (rename_i hx;exact (hx _ rfl).elim) | go_prune)))
  refine bodyPost_ret (v:=.tuple #[.agg #[.int .i64 0,.int .i64 0],.int .i64 7]) (by simp only [results,Tryz.results87];go_simp;try rfl) rfl ⟨?_,?_⟩
  · rfl
  · exact syn.bq
set_option maxHeartbeats 1000000 in
theorem ra6 (p f k n d:Int) (w:World) (h:1 ≤ p ∧ p ≤ 2000 ∧ 0 ≤ f ∧ f ≤ 2000) (hk:k = 6):RApp p f k n d w p f 0:=by
  unfold RApp
  subst hk
  have HR1:=syn.hid (fun w => refRight_any p f w)
  rw [right_yes h] at HR1
  have HR2:=syn.hid (fun w => refRight_any p f w)
  rw [right_yes syn.oq] at HR2
  go_enter Tryz.func87,Tryz.ntmps87
  repeat' (first | (go_at_call 42;(with_reducible refine (HR1.out _).mono ?_);rintro e w1 ⟨rfl,hb1⟩;clear HR1;obtain ⟨hc1,hf1⟩:=bcell hb1;have a1:w.heap.size < w1.heap.size:=sz_of hb1 syn.oq;have a2:w.heap.size + 1 < w1.heap.size:=sz_of hb1 syn.oq;have a3:w.heap.size + 1 + 1 < w1.heap.size:=sz_of hb1 syn.oq;have hr1:w1.heap[w.heap.size + 1 + 1]? = some (.cells #[.int .i64 0,.int .i64 0] 53 (0,0)):=(hb1.block _ syn.oq).trans (by simpa using heap_new ((w.alloc _).alloc _) _);have HX1:=syn.hid hr1;have hr0:w1.heap[w.heap.size + 1]? = some (.cells #[.int .i64 6,.int .i64 n,.int .i64 d] 102 (0,0)):=(hb1.block _ syn.oq).trans ((Below.heap_alloc _ _ _ (by simp)).trans (by simpa using heap_new (w.alloc _) _));have HX0:=syn.hid hr0;clear hr1 hr0) | go_values | go_skip | go_guarded | go_step | go_upon | (simp only [Int.not_lt,Int.not_le] at *;go_simp) | (go_values <;> (try go_simp)) | (go_ite <;> go_prune <;> (try go_simp)) | (split <;> (first | (rename_i hx;exact (hx _ rfl).elim) | go_prune)))
  go_region
  generalize hw3:World.drew w1 = w3
  have hb3:Below w1.heap.size w1 w3:=by rw [← hw3];exact (Below.refl _ _).drew
  have s3:w.heap.size + 1 + 1 < w3.heap.size:=by rw [← hw3];exact a3
  have HX3:=syn.hid ((hb3.block _ a3).trans HX1.out)
  have HX4:=syn.hid ((hb3.block _ a2).trans HX0.out)
  obtain ⟨⟨r0,r1⟩,rf⟩:=cells2a HX3.out
  obtain ⟨⟨o0,o1,o2⟩,of_⟩:=cells3a HX4.out
  clear hw3 hc1 hf1
  repeat' (first | (go_at_call 42;(with_reducible refine (HR2.out _).mono ?_);rintro e w2 ⟨rfl,hb2⟩;obtain ⟨⟨u0,u1⟩,uf⟩:=cells2a ((hb2.block w3.heap.size syn.oq).trans (heap_new w3 _));obtain ⟨⟨v0,v1⟩,vf⟩:=cells2a ((hb2.block (w.heap.size + 1 + 1) syn.oq).trans ((Below.heap_alloc _ _ _ s3).trans HX3.out));have a4:w3.heap.size < w2.heap.size:=sz_of hb2 syn.oq;have a5:w.heap.size + 1 + 1 < w2.heap.size:=sz_of hb2 syn.oq) | go_values | go_skip | go_guarded | go_step | go_upon | (simp only [Int.not_lt,Int.not_le] at *;go_simp) | (go_values <;> (try go_simp)) | (go_ite <;> go_prune <;> (try go_simp)) | (split <;> (first | (rename_i hx;exact (hx _ rfl).elim) | go_prune)))
  refine bodyPost_ret (v:=.tuple #[.agg #[.int .i64 p,.int .i64 f],.int .i64 0]) (by simp only [results,Tryz.results87];go_simp;try rfl) rfl ⟨?_,?_⟩
  · rfl
  · exact syn.bq
set_option maxHeartbeats 1000000 in
theorem ra7_yes (p f k n d:Int) (w:World) (h:1 ≤ p ∧ p ≤ 2000 ∧ 0 ≤ f ∧ f ≤ 2000) (hk:k = 7) (hl:f + p ≤ 2000):RApp p f k n d w p (f + p) 0:=by
  unfold RApp
  subst hk
  have HR1:=syn.hid (fun w => refRight_any p f w)
  rw [right_yes h] at HR1
  have HR2:=syn.hid (fun w => refRight_any p (f + p) w)
  rw [right_yes syn.oq] at HR2
  go_enter Tryz.func87,Tryz.ntmps87
  repeat' (first | (go_at_call 42;(with_reducible refine (HR1.out _).mono ?_);rintro e w1 ⟨rfl,hb1⟩;clear HR1;obtain ⟨hc1,hf1⟩:=bcell hb1;have a1:w.heap.size < w1.heap.size:=sz_of hb1 syn.oq;have a2:w.heap.size + 1 < w1.heap.size:=sz_of hb1 syn.oq;have a3:w.heap.size + 1 + 1 < w1.heap.size:=sz_of hb1 syn.oq;have hr1:w1.heap[w.heap.size + 1 + 1]? = some (.cells #[.int .i64 0,.int .i64 0] 53 (0,0)):=(hb1.block _ syn.oq).trans (by simpa using heap_new ((w.alloc _).alloc _) _);have HX1:=syn.hid hr1;have hr0:w1.heap[w.heap.size + 1]? = some (.cells #[.int .i64 7,.int .i64 n,.int .i64 d] 102 (0,0)):=(hb1.block _ syn.oq).trans ((Below.heap_alloc _ _ _ (by simp)).trans (by simpa using heap_new (w.alloc _) _));have HX0:=syn.hid hr0;clear hr1 hr0) | go_values | go_skip | go_guarded | go_step | go_upon | (simp only [Int.not_lt,Int.not_le] at *;go_simp) | (go_values <;> (try go_simp)) | (go_ite <;> go_prune <;> (try go_simp)) | (split <;> (first | (rename_i hx;exact (hx _ rfl).elim) | go_prune)))
  go_region
  generalize hw3:World.drew w1 = w3
  have hb3:Below w1.heap.size w1 w3:=by rw [← hw3];exact (Below.refl _ _).drew
  have s3:w.heap.size + 1 + 1 < w3.heap.size:=by rw [← hw3];exact a3
  have HX3:=syn.hid ((hb3.block _ a3).trans HX1.out)
  have HX4:=syn.hid ((hb3.block _ a2).trans HX0.out)
  obtain ⟨⟨r0,r1⟩,rf⟩:=cells2a HX3.out
  obtain ⟨⟨o0,o1,o2⟩,of_⟩:=cells3a HX4.out
  clear hw3 hc1 hf1
  repeat' (first | (go_at_call 42;(with_reducible refine (HR2.out _).mono ?_);rintro e w2 ⟨rfl,hb2⟩;obtain ⟨⟨u0,u1⟩,uf⟩:=cells2a ((hb2.block w3.heap.size syn.oq).trans (heap_new w3 _));obtain ⟨⟨v0,v1⟩,vf⟩:=cells2a ((hb2.block (w.heap.size + 1 + 1) syn.oq).trans ((Below.heap_alloc _ _ _ s3).trans HX3.out));have a4:w3.heap.size < w2.heap.size:=sz_of hb2 syn.oq;have a5:w.heap.size + 1 + 1 < w2.heap.size:=sz_of hb2 syn.oq) | go_values | go_skip | go_guarded | go_step | go_upon | (simp only [Int.not_lt,Int.not_le] at *;go_simp) | (go_values <;> (try go_simp)) | (go_ite <;> go_prune <;> (try go_simp)) | (split <;> (first | (rename_i hx;exact (hx _ rfl).elim) | go_prune)))
  refine bodyPost_ret (v:=.tuple #[.agg #[.int .i64 p,.int .i64 (f + p)],.int .i64 0]) (by simp only [results,Tryz.results87];go_simp;try rfl) rfl ⟨?_,?_⟩
  · rfl
  · exact syn.bq
set_option maxHeartbeats 1000000 in
theorem ra7_far (p f k n d:Int) (w:World) (h:1 ≤ p ∧ p ≤ 2000 ∧ 0 ≤ f ∧ f ≤ 2000) (hk:k = 7) (hl:¬ f + p ≤ 2000):RApp p f k n d w 0 0 7:=by
  unfold RApp
  subst hk
  have HR1:=syn.hid (fun w => refRight_any p f w)
  rw [right_yes h] at HR1
  have HR2:=syn.hid (fun w => refRight_any p (f + p) w)
  rw [right_no syn.oq] at HR2
  go_enter Tryz.func87,Tryz.ntmps87
  repeat' (first | (go_at_call 42;(with_reducible refine (HR1.out _).mono ?_);rintro e w1 ⟨rfl,hb1⟩;clear HR1;obtain ⟨hc1,hf1⟩:=bcell hb1;have a1:w.heap.size < w1.heap.size:=sz_of hb1 syn.oq;have a2:w.heap.size + 1 < w1.heap.size:=sz_of hb1 syn.oq;have a3:w.heap.size + 1 + 1 < w1.heap.size:=sz_of hb1 syn.oq;have hr1:w1.heap[w.heap.size + 1 + 1]? = some (.cells #[.int .i64 0,.int .i64 0] 53 (0,0)):=(hb1.block _ syn.oq).trans (by simpa using heap_new ((w.alloc _).alloc _) _);have HX1:=syn.hid hr1;have hr0:w1.heap[w.heap.size + 1]? = some (.cells #[.int .i64 7,.int .i64 n,.int .i64 d] 102 (0,0)):=(hb1.block _ syn.oq).trans ((Below.heap_alloc _ _ _ (by simp)).trans (by simpa using heap_new (w.alloc _) _));have HX0:=syn.hid hr0;clear hr1 hr0) | go_values | go_skip | go_guarded | go_step | go_upon | (simp only [Int.not_lt,Int.not_le] at *;go_simp) | (go_values <;> (try go_simp)) | (go_ite <;> go_prune <;> (try go_simp)) | (split <;> (first | (rename_i hx;exact (hx _ rfl).elim) | go_prune)))
  go_region
  generalize hw3:World.drew w1 = w3
  have hb3:Below w1.heap.size w1 w3:=by rw [← hw3];exact (Below.refl _ _).drew
  have s3:w.heap.size + 1 + 1 < w3.heap.size:=by rw [← hw3];exact a3
  have HX3:=syn.hid ((hb3.block _ a3).trans HX1.out)
  have HX4:=syn.hid ((hb3.block _ a2).trans HX0.out)
  obtain ⟨⟨r0,r1⟩,rf⟩:=cells2a HX3.out
  obtain ⟨⟨o0,o1,o2⟩,of_⟩:=cells3a HX4.out
  clear hw3 hc1 hf1
  repeat' (first | (go_at_call 42;(with_reducible refine (HR2.out _).mono ?_);rintro e w2 ⟨rfl,hb2⟩;obtain ⟨⟨u0,u1⟩,uf⟩:=cells2a ((hb2.block w3.heap.size syn.oq).trans (heap_new w3 _));obtain ⟨⟨v0,v1⟩,vf⟩:=cells2a ((hb2.block (w.heap.size + 1 + 1) syn.oq).trans ((Below.heap_alloc _ _ _ s3).trans HX3.out));have a4:w3.heap.size < w2.heap.size:=sz_of hb2 syn.oq;have a5:w.heap.size + 1 + 1 < w2.heap.size:=sz_of hb2 syn.oq) | go_values | go_skip | go_guarded | go_step | go_upon | (simp only [Int.not_lt,Int.not_le] at *;go_simp) | (go_values <;> (try go_simp)) | (go_ite <;> go_prune <;> (try go_simp)) | (split <;> (first | (rename_i hx;exact (hx _ rfl).elim) | go_prune)))
  refine bodyPost_ret (v:=.tuple #[.agg #[.int .i64 0,.int .i64 0],.int .i64 7]) (by simp only [results,Tryz.results87];go_simp;try rfl) rfl ⟨?_,?_⟩
  · rfl
  · exact syn.bq
set_option maxHeartbeats 1000000 in
theorem ra8_no (p f k n d:Int) (w:World) (h:1 ≤ p ∧ p ≤ 2000 ∧ 0 ≤ f ∧ f ≤ 2000) (hk:k = 8) (hl:f < p):RApp p f k n d w 0 0 5:=by
  unfold RApp
  subst hk
  have HR1:=syn.hid (fun w => refRight_any p f w)
  rw [right_yes h] at HR1
  go_enter Tryz.func87,Tryz.ntmps87
  repeat' (first | (go_at_call 42;(with_reducible refine (HR1.out _).mono ?_);rintro e w1 ⟨rfl,hb1⟩;clear HR1;obtain ⟨hc1,hf1⟩:=bcell hb1;have a1:w.heap.size < w1.heap.size:=sz_of hb1 syn.oq;have a2:w.heap.size + 1 < w1.heap.size:=sz_of hb1 syn.oq;have a3:w.heap.size + 1 + 1 < w1.heap.size:=sz_of hb1 syn.oq;have hr1:w1.heap[w.heap.size + 1 + 1]? = some (.cells #[.int .i64 0,.int .i64 0] 53 (0,0)):=(hb1.block _ syn.oq).trans (by simpa using heap_new ((w.alloc _).alloc _) _);have HX1:=syn.hid hr1;have hr0:w1.heap[w.heap.size + 1]? = some (.cells #[.int .i64 8,.int .i64 n,.int .i64 d] 102 (0,0)):=(hb1.block _ syn.oq).trans ((Below.heap_alloc _ _ _ (by simp)).trans (by simpa using heap_new (w.alloc _) _));have HX0:=syn.hid hr0;clear hr1 hr0) | go_values | go_skip | go_guarded | go_step | go_upon | (simp only [Int.not_lt,Int.not_le] at *;go_simp) | (go_values <;> (try go_simp)) | (go_ite <;> go_prune <;> (try go_simp)) | (split <;> (first | (rename_i hx;exact (hx _ rfl).elim) | go_prune)))
  go_quiet (fail)
  repeat' (first | go_values | go_skip | go_guarded | go_step | go_upon | (simp only [Int.not_lt,Int.not_le] at *;go_simp) | (go_values <;> (try go_simp)) | (go_ite <;> go_prune <;> (try go_simp)) | (split <;> (first | (rename_i hx;exact (hx _ rfl).elim) | go_prune)))
  refine bodyPost_ret (v:=.tuple #[.agg #[.int .i64 0,.int .i64 0],.int .i64 5]) (by simp only [results,Tryz.results87];go_simp;try rfl) rfl ⟨?_,?_⟩
  · rfl
  · exact syn.bq
set_option maxHeartbeats 1000000 in
theorem ra8_yes (p f k n d:Int) (w:World) (h:1 ≤ p ∧ p ≤ 2000 ∧ 0 ≤ f ∧ f ≤ 2000) (hk:k = 8) (hl:p ≤ f):RApp p f k n d w p (f - p) 0:=by
  unfold RApp
  subst hk
  have HR1:=syn.hid (fun w => refRight_any p f w)
  rw [right_yes h] at HR1
  have hld:decide (f < p) = false:=decide_eq_false syn.oq
  have HR2:=syn.hid (fun w => refRight_any p (f - p) w)
  rw [right_yes syn.oq] at HR2
  go_enter Tryz.func87,Tryz.ntmps87
  repeat' (first | (go_at_call 42;(with_reducible refine (HR1.out _).mono ?_);rintro e w1 ⟨rfl,hb1⟩;clear HR1;obtain ⟨hc1,hf1⟩:=bcell hb1;have a1:w.heap.size < w1.heap.size:=sz_of hb1 syn.oq;have a2:w.heap.size + 1 < w1.heap.size:=sz_of hb1 syn.oq;have a3:w.heap.size + 1 + 1 < w1.heap.size:=sz_of hb1 syn.oq;have hr1:w1.heap[w.heap.size + 1 + 1]? = some (.cells #[.int .i64 0,.int .i64 0] 53 (0,0)):=(hb1.block _ syn.oq).trans (by simpa using heap_new ((w.alloc _).alloc _) _);have HX1:=syn.hid hr1;have hr0:w1.heap[w.heap.size + 1]? = some (.cells #[.int .i64 8,.int .i64 n,.int .i64 d] 102 (0,0)):=(hb1.block _ syn.oq).trans ((Below.heap_alloc _ _ _ (by simp)).trans (by simpa using heap_new (w.alloc _) _));have HX0:=syn.hid hr0;clear hr1 hr0) | go_values | go_skip | go_guarded | go_step | go_upon | (simp only [Int.not_lt,Int.not_le] at *;go_simp) | (go_values <;> (try go_simp)) | (go_ite <;> go_prune <;> (try go_simp)) | (split <;> (first | (rename_i hx;exact (hx _ rfl).elim) | go_prune)))
  go_region
  generalize hw3:World.drew w1 = w3
  have hb3:Below w1.heap.size w1 w3:=by rw [← hw3];exact (Below.refl _ _).drew
  have s3:w.heap.size + 1 + 1 < w3.heap.size:=by rw [← hw3];exact a3
  have HX3:=syn.hid ((hb3.block _ a3).trans HX1.out)
  have HX4:=syn.hid ((hb3.block _ a2).trans HX0.out)
  obtain ⟨⟨r0,r1⟩,rf⟩:=cells2a HX3.out
  obtain ⟨⟨o0,o1,o2⟩,of_⟩:=cells3a HX4.out
  clear hw3 hc1 hf1
  repeat' (first | (go_at_call 42;(with_reducible refine (HR2.out _).mono ?_);rintro e w2 ⟨rfl,hb2⟩;obtain ⟨⟨u0,u1⟩,uf⟩:=cells2a ((hb2.block w3.heap.size syn.oq).trans (heap_new w3 _));obtain ⟨⟨v0,v1⟩,vf⟩:=cells2a ((hb2.block (w.heap.size + 1 + 1) syn.oq).trans ((Below.heap_alloc _ _ _ s3).trans HX3.out));have a4:w3.heap.size < w2.heap.size:=sz_of hb2 syn.oq;have a5:w.heap.size + 1 + 1 < w2.heap.size:=sz_of hb2 syn.oq) | go_values | go_skip | go_guarded | go_step | go_upon | (simp only [Int.not_lt,Int.not_le] at *;go_simp) | (go_values <;> (try go_simp)) | (go_ite <;> go_prune <;> (try go_simp)) | (split <;> (first | (rename_i hx;exact (hx _ rfl).elim) | go_prune)))
  refine bodyPost_ret (v:=.tuple #[.agg #[.int .i64 p,.int .i64 (f - p)],.int .i64 0]) (by simp only [results,Tryz.results87];go_simp;try rfl) rfl ⟨?_,?_⟩
  · rfl
  · exact syn.bq
theorem refApply_any (p f k n d:Int) (w:World) :
    Calls Tryz.prog 87 #[.agg #[.int .i64 p,.int .i64 f],.agg #[.int .i64 k,.int .i64 n,.int .i64 d]] w fun e w' => e = .returned (ansT (applyP p f k n d)) ∧ Below w.heap.size w w':=by
  have key:∀ a b c,applyP p f k n d = (a,b,c) → RApp p f k n d w a b c → Calls Tryz.prog 87 #[.agg #[.int .i64 p,.int .i64 f],.agg #[.int .i64 k,.int .i64 n,.int .i64 d]] w fun e w' => e = .returned (ansT (applyP p f k n d)) ∧ Below w.heap.size w w':=by
    intro a b c h h2;rw [h];exact h2
  by_cases h:1 ≤ p ∧ p ≤ 2000 ∧ 0 ≤ f ∧ f ≤ 2000
  · have hR:¬ (rightB p f = false ∨ k < 3 ∨ 8 < k) ∨ (k < 3 ∨ 8 < k):=by
      by_cases hk:k < 3 ∨ 8 < k
      · exact .inr hk
      · refine .inl ?_;rintro (h1 | h1);· rw [right_yes h] at h1;cases h1
        · exact hk h1
    rcases hR with hR | hk
    · have hk3:3 ≤ k ∧ k ≤ 8:=by
        constructor <;> (apply Classical.byContradiction;intro hc;exact hR (.inr syn.oq))
      by_cases hf:facB k n d = true
      · have hff:=hf
        unfold facB at hff
        have hff:=of_decide_eq_true hff
        have e0:applyP p f k n d = (if k = 3 then (if p % n = 0 then (p / n,f,0) else (0,0,5)) else if k = 4 then (if p * n ≤ 2000 then (p * n,f,0) else (0,0,7)) else if k = 5 then (if p * n % d = 0 then fin p (f + p * n / d) else (0,0,5)) else if k = 6 then (p,f,0) else if k = 7 then fin p (f + p) else if p ≤ f then (p,f - p,0) else (0,0,5)):=by unfold applyP;rw [if_neg hR,if_neg (by rw [hf];decide)]
        obtain rfl | rfl | rfl | rfl | rfl | rfl:k = 3 ∨ k = 4 ∨ k = 5 ∨ k = 6 ∨ k = 7 ∨ k = 8:=by omega
        · have hn:=hff.1 syn.oq
          by_cases hz:p % n = 0
          · exact key _ _ _ (by rw [e0];simp [hz]) (ra3_yes p f 3 n d w h rfl hn.1 hn.2 hz)
          · exact key _ _ _ (by rw [e0];simp [hz]) (ra3_no p f 3 n d w h rfl hn.1 hn.2 hz)
        · have hn:=hff.1 syn.oq
          by_cases hz:p * n ≤ 2000
          · exact key _ _ _ (by rw [e0];simp [hz]) (ra4_yes p f 4 n d w h rfl hn.1 hn.2 hz)
          · exact key _ _ _ (by rw [e0];simp [hz]) (ra4_no p f 4 n d w h rfl hn.1 hn.2 hz)
        · have hn:=hff.2 syn.oq
          by_cases hz:p * n % d = 0
          · by_cases hl:f + p * n / d ≤ 2000
            · exact key _ _ _ (by rw [e0];simp [hz,fin,hl]) (ra5_yes p f 5 n d w h rfl hn.2.2.1 hn.2.2.2 hn.1 hn.2.1 hz hl)
            · exact key _ _ _ (by rw [e0];simp [hz,fin,hl]) (ra5_far p f 5 n d w h rfl hn.2.2.1 hn.2.2.2 hn.1 hn.2.1 hz hl)
          · exact key _ _ _ (by rw [e0];simp [hz]) (ra5_no p f 5 n d w h rfl hn.2.2.1 hn.2.2.2 hn.1 hn.2.1 hz)
        · exact key _ _ _ (by rw [e0];simp) (ra6 p f 6 n d w h rfl)
        · by_cases hl:f + p ≤ 2000
          · exact key _ _ _ (by rw [e0];simp [fin,hl]) (ra7_yes p f 7 n d w h rfl hl)
          · exact key _ _ _ (by rw [e0];simp [fin,hl]) (ra7_far p f 7 n d w h rfl hl)
        · by_cases hl:p ≤ f
          · exact key _ _ _ (by rw [e0];simp [hl]) (ra8_yes p f 8 n d w h rfl hl)
          · exact key _ _ _ (by rw [e0];simp [hl]) (ra8_no p f 8 n d w h rfl syn.oq)
      · have hf':facB k n d = false:=by simpa using hf
        have e0:applyP p f k n d = (0,0,7):=by unfold applyP;rw [if_neg hR,if_pos hf']
        have hff:¬ ((k = 3 ∨ k = 4 → 1 ≤ n ∧ n ≤ 100) ∧ (k = 5 → 1 ≤ d ∧ d ≤ 100 ∧ 0 ≤ n ∧ n ≤ 100)):=by
          intro h';rw [fac_yes h'] at hf';cases hf'
        by_cases h3:k = 3
        · by_cases hn:n < 1
          · exact key _ _ _ e0 (ra3_lo p f k n d w h h3 hn)
          · exact key _ _ _ e0 (ra3_hi p f k n d w h h3 (by apply Classical.byContradiction;intro hc;exact hff ⟨fun _ => by omega,fun h5 => by omega⟩))
        · by_cases h4:k = 4
          · by_cases hn:n < 1
            · exact key _ _ _ e0 (ra4_lo p f k n d w h h4 hn)
            · exact key _ _ _ e0 (ra4_hi p f k n d w h h4 (by apply Classical.byContradiction;intro hc;exact hff ⟨fun _ => by omega,fun h5 => by omega⟩))
          · have h5:k = 5:=by apply Classical.byContradiction;intro hc;exact hff ⟨fun h' => by omega,fun h' => by omega⟩
            by_cases hn:n < 0
            · exact key _ _ _ e0 (ra5_nlo p f k n d w h h5 hn)
            · by_cases hn2:100 < n
              · exact key _ _ _ e0 (ra5_nhi p f k n d w h h5 hn2)
              · by_cases hd:d < 1
                · exact key _ _ _ e0 (ra5_dlo p f k n d w h h5 syn.oq syn.oq hd)
                · exact key _ _ _ e0 (ra5_dhi p f k n d w h h5 syn.oq syn.oq (by apply Classical.byContradiction;intro hc;exact hff ⟨fun h' => by omega,fun h' => by omega⟩))
    · have e0:applyP p f k n d = (0,0,12):=by unfold applyP;rw [if_pos (.inr hk)]
      rcases hk with hk | hk
      · exact key _ _ _ e0 (ra_low p f k n d w h hk)
      · exact key _ _ _ e0 (ra_high p f k n d w h hk)
  · exact key _ _ _ (by unfold applyP;rw [if_pos (.inl (right_no h))]) (ra_wrong p f k n d w h)
end Go.Proofs.YteaiemfhlpoieaaGreatDoor.clock
