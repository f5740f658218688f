/-
  Parts of the proof: Ref4c2.
-/
import Derived.Test.YteaiemfhlpoieaaGreatDoorQ11
namespace Go.Proofs.YteaiemfhlpoieaaGreatDoor.syn
open Go.RowKit
set_option linter.unusedVariables false
set_option linter.unusedSimpArgs false
set_option maxRecDepth 100000 in
set_option maxHeartbeats 4000000 in
theorem expr_step2 (e:PE) (hn0:¬ e.n = 0) (hd0:e.d = 0) (ih:∀ e':PE,e'.args.sz < e.args.sz → ExprSaid e'):ExprSaid e:=by
  intro w ad cap hae
  obtain ⟨k,nm,n,d,args,a⟩:=e
  have hlen:=hae.len
  have hnm:=hae.nums.2.2.2.2
  simp only at hlen hnm hn0 hd0
  have hn1:(n == 0) = false:=beq_eq_false_iff_ne.2 hn0
  subst hd0
  have HAE:=hid hae
  have HIH:=hid ih
  clear hae ih
  unfold ev
  simp only
  obtain ⟨fin,hfin⟩:∃ fin,exprOK ⟨k,nm,n,0,args,a⟩ = fin:=⟨_,rfl⟩
  rw [hfin]
  have HF:=hid (show (exR args && exE k n 0 nm args.len) = fin from hfin)
  clear hfin
  go_enter Tryz.func28,Tryz.ntmps28
  go_wp2
  go_loopw [3] (fun v3 wr => Hid (ExRel w ⟨k,nm,n,0,args,a⟩ ad cap v3 wr)) (fun i _ => args.len - (intOf i).toNat)
  case atStart => exact ⟨0,args,rfl,(Rest.start HAE.out.args).below bq,rfl,heap_new w _,bq⟩
  case round =>
    obtain ⟨i,rest,rfl,hrest,hsz,hbox,hbel⟩:=hrel.out
    clear hrel
    obtain ⟨⟨x0,x1,x2,x3,x4,x5⟩,xf⟩:=cells6' hbox
    have HBOX:=hid hbox
    have HBEL:=hid hbel
    have hil:=hrest.1
    simp only at hil
    have hbl:=lt_of_block hbox
    have hsB:=hbel.size
    have HR:=hid hrest
    clear hbox hbel hrest
    cases rest with
    | cons k1 nm1 n1 d1 args1 a1 tl =>
      have HSZ:=hid hsz
      clear hsz
      have hil':(i:Int) < (args.len:Int):=by simp only [PL.len] at hil;omega
      obtain ⟨b,o,rfl,hb,h0,h1,h2,h3,h5,hn,⟨ad1,cap1,h4,hcap1,hcm1,hd1⟩,ht⟩:=HR.out.2.2.resolve_left (by intro h;cases h)
      have hsub:=HR.out.2.1
      simp only [PL.sz] at hsub
      have HC:=hid (HIH.out ⟨k1,nm1,n1,d1,args1,a1⟩ (by show args1.sz < args.sz;omega) wr ad1 cap1 ⟨hn,⟨hcap1,hcm1⟩,hd1⟩)
      unfold ev at HC
      simp only at HC
      cases hbb:exprOK ⟨k1,nm1,n1,d1,args1,a1⟩ with
      | true =>
        rw [hbb] at HC
        have HS2:=hid (show exR tl = exR args from by
          have h:=HSZ.out
          rw [exR,show (exR args1 && exE k1 n1 d1 nm1 args1.len) = true from hbb,Bool.true_and] at h
          exact h)
        clear hbb ht hn hd1
        go_wp2_with (go_at_call 28;refine HC.out.mono ?_;rintro e w2 ⟨rfl,hb2⟩)
        go_roundw
        case rel => exact ⟨i + 1,tl,by go_num,HR.out.tail.below hb2,HS2.out,(hb2.block _ hbl).trans HBOX.out,bq⟩
        case measure => simp [intOf];omega
      | false =>
        rw [hbb] at HC
        have HS2:=hid (show exR args = false from by
          have h:=HSZ.out
          rw [exR,show (exR args1 && exE k1 n1 d1 nm1 args1.len) = false from hbb,Bool.false_and] at h
          exact h.symm)
        clear hbb ht hn hd1
        go_wp2_with (go_at_call 28;refine HC.out.mono ?_;rintro e w2 ⟨rfl,hb2⟩)
        go_ret
        exact ⟨ret_bool (by rw [← HF.out,HS2.out];rfl),bq⟩
    | nil =>
      have hil':(i:Int) = (args.len:Int):=by simp only [PL.len] at hil;omega
      have HSZ:=hid (show true = exR args from hsz)
      have HRI:=hid (fun w => right_any nm w hnm)
      have HN1:=hid (fun w => number_ref n 1 100 w)
      have HN2:=hid (fun w => number_ref n 0 100 w)
      have HN3:=hid (fun w => number_ref n (-1000000000) 1000000000 w)
      have HD1:=hid (fun w => number_ref 0 1 100 w)
      clear hsz hil
      by_cases hk1:k = 1
      · subst hk1
        cases hno:nameOK nm with
        | false =>
          rw [hno] at HRI
          go_wp2_with (first | (go_at_call 23;refine (HRI.out _).mono ?_;rintro e w2 ⟨rfl,hb2⟩;obtain ⟨hc2,hf2⟩:=bcell hb2) | (go_at_call 24;(with_reducible refine (HN2.out _).mono ?_);rintro e w2 ⟨rfl,rfl⟩) | (go_at_call 24;(with_reducible refine (HN3.out _).mono ?_);rintro e w2 ⟨rfl,rfl⟩) | (go_at_call 24;(with_reducible refine (HN1.out _).mono ?_);rintro e w2 ⟨rfl,rfl⟩) | (go_at_call 24;(with_reducible refine (HD1.out _).mono ?_);rintro e w2 ⟨rfl,rfl⟩))
          all_goals (first | (exfalso;have hl_:=HL.out;omega) | (go_ret;exact ⟨ret_bool (by rw [← HF.out,← HSZ.out];simp [exE,hn0,hno]),bq⟩))
        | true =>
          rw [hno] at HRI
          by_cases hl0:args.len = 0
          · have hl1:((args.len:Int) == 0) = true:=by rw [beq_iff_eq];omega
            have HL:=hid hl0
            clear hl0
            go_wp2_with (first | (go_at_call 23;refine (HRI.out _).mono ?_;rintro e w2 ⟨rfl,hb2⟩;obtain ⟨hc2,hf2⟩:=bcell hb2) | (go_at_call 24;(with_reducible refine (HN2.out _).mono ?_);rintro e w2 ⟨rfl,rfl⟩) | (go_at_call 24;(with_reducible refine (HN3.out _).mono ?_);rintro e w2 ⟨rfl,rfl⟩) | (go_at_call 24;(with_reducible refine (HN1.out _).mono ?_);rintro e w2 ⟨rfl,rfl⟩) | (go_at_call 24;(with_reducible refine (HD1.out _).mono ?_);rintro e w2 ⟨rfl,rfl⟩))
            all_goals (first | (exfalso;have hl_:=HL.out;omega) | (go_ret;exact ⟨ret_bool (by rw [← HF.out,← HSZ.out];simp [exE,hn0,hno,HL.out]),bq⟩))
          · have hl1:((args.len:Int) == 0) = false:=by rw [beq_eq_false_iff_ne];omega
            have HL:=hid hl0
            clear hl0
            go_wp2_with (first | (go_at_call 23;refine (HRI.out _).mono ?_;rintro e w2 ⟨rfl,hb2⟩;obtain ⟨hc2,hf2⟩:=bcell hb2) | (go_at_call 24;(with_reducible refine (HN2.out _).mono ?_);rintro e w2 ⟨rfl,rfl⟩) | (go_at_call 24;(with_reducible refine (HN3.out _).mono ?_);rintro e w2 ⟨rfl,rfl⟩) | (go_at_call 24;(with_reducible refine (HN1.out _).mono ?_);rintro e w2 ⟨rfl,rfl⟩) | (go_at_call 24;(with_reducible refine (HD1.out _).mono ?_);rintro e w2 ⟨rfl,rfl⟩))
            all_goals (first | (exfalso;have hl_:=HL.out;omega) | (go_ret;exact ⟨ret_bool (by rw [← HF.out,← HSZ.out];simp [exE,hn0,hno,HL.out]),bq⟩))
      · have hk1':(k == 1) = false:=beq_eq_false_iff_ne.2 hk1
        by_cases hk2:k = 2
        · subst hk2
          cases hno:nameOK nm with
          | false =>
            rw [hno] at HRI
            go_wp2_with (first | (go_at_call 23;refine (HRI.out _).mono ?_;rintro e w2 ⟨rfl,hb2⟩;obtain ⟨hc2,hf2⟩:=bcell hb2) | (go_at_call 24;(with_reducible refine (HN2.out _).mono ?_);rintro e w2 ⟨rfl,rfl⟩) | (go_at_call 24;(with_reducible refine (HN3.out _).mono ?_);rintro e w2 ⟨rfl,rfl⟩) | (go_at_call 24;(with_reducible refine (HN1.out _).mono ?_);rintro e w2 ⟨rfl,rfl⟩) | (go_at_call 24;(with_reducible refine (HD1.out _).mono ?_);rintro e w2 ⟨rfl,rfl⟩))
            all_goals (first | (exfalso;have hl_:=HL.out;omega) | (go_ret;exact ⟨ret_bool (by rw [← HF.out,← HSZ.out];simp [exE,hn0,hk1,hno]),bq⟩))
          | true =>
            rw [hno] at HRI
            by_cases hl0:1 ≤ args.len
            · have hl1:(1:Int) ≤ (args.len:Int):=by omega
              by_cases hl6:args.len ≤ 6
              · have hl2:(args.len:Int) ≤ 6:=by omega
                go_wp2_with (first | (go_at_call 23;refine (HRI.out _).mono ?_;rintro e w2 ⟨rfl,hb2⟩;obtain ⟨hc2,hf2⟩:=bcell hb2) | (go_at_call 24;(with_reducible refine (HN2.out _).mono ?_);rintro e w2 ⟨rfl,rfl⟩) | (go_at_call 24;(with_reducible refine (HN3.out _).mono ?_);rintro e w2 ⟨rfl,rfl⟩) | (go_at_call 24;(with_reducible refine (HN1.out _).mono ?_);rintro e w2 ⟨rfl,rfl⟩) | (go_at_call 24;(with_reducible refine (HD1.out _).mono ?_);rintro e w2 ⟨rfl,rfl⟩))
                all_goals (first | (exfalso;have hl_:=HL.out;omega) | (go_ret;exact ⟨ret_bool (by rw [← HF.out,← HSZ.out];simp [exE,hn0,hk1,hno,hl0,hl6]),bq⟩))
              · have hl2:(6:Int) < (args.len:Int):=by omega
                have hl3:decide ((args.len:Int) ≤ 6) = false:=by simpa using hl2
                go_wp2_with (first | (go_at_call 23;refine (HRI.out _).mono ?_;rintro e w2 ⟨rfl,hb2⟩;obtain ⟨hc2,hf2⟩:=bcell hb2) | (go_at_call 24;(with_reducible refine (HN2.out _).mono ?_);rintro e w2 ⟨rfl,rfl⟩) | (go_at_call 24;(with_reducible refine (HN3.out _).mono ?_);rintro e w2 ⟨rfl,rfl⟩) | (go_at_call 24;(with_reducible refine (HN1.out _).mono ?_);rintro e w2 ⟨rfl,rfl⟩) | (go_at_call 24;(with_reducible refine (HD1.out _).mono ?_);rintro e w2 ⟨rfl,rfl⟩))
                all_goals (first | (exfalso;have hl_:=HL.out;omega) | (go_ret;exact ⟨ret_bool (by rw [← HF.out,← HSZ.out];simp [exE,hn0,hk1,hno,hl6]),bq⟩))
            · have hl1:(args.len:Int) < 1:=by omega
              have hl3:decide ((1:Int) ≤ (args.len:Int)) = false:=by simpa using hl1
              have HL:=hid hl0
              clear hl0
              go_wp2_with (first | (go_at_call 23;refine (HRI.out _).mono ?_;rintro e w2 ⟨rfl,hb2⟩;obtain ⟨hc2,hf2⟩:=bcell hb2) | (go_at_call 24;(with_reducible refine (HN2.out _).mono ?_);rintro e w2 ⟨rfl,rfl⟩) | (go_at_call 24;(with_reducible refine (HN3.out _).mono ?_);rintro e w2 ⟨rfl,rfl⟩) | (go_at_call 24;(with_reducible refine (HN1.out _).mono ?_);rintro e w2 ⟨rfl,rfl⟩) | (go_at_call 24;(with_reducible refine (HD1.out _).mono ?_);rintro e w2 ⟨rfl,rfl⟩))
              all_goals (first | (exfalso;have hl_:=HL.out;omega) | (go_ret;exact ⟨ret_bool (by rw [← HF.out,← HSZ.out];simp [exE,hn0,hk1,hno,HL.out]),bq⟩))
        · have hk2':(k == 2) = false:=beq_eq_false_iff_ne.2 hk2
          by_cases hk3:k = 3
          · subst hk3
            by_cases hl0:args.len = 1
            · have hl1:((args.len:Int) == 1) = true:=by rw [beq_iff_eq];omega
              have HL:=hid hl0
              clear hl0
              by_cases he:nm = ⟨#[]⟩
              · subst he
                go_wp2_with (first | (go_at_call 23;refine (HRI.out _).mono ?_;rintro e w2 ⟨rfl,hb2⟩;obtain ⟨hc2,hf2⟩:=bcell hb2) | (go_at_call 24;(with_reducible refine (HN2.out _).mono ?_);rintro e w2 ⟨rfl,rfl⟩) | (go_at_call 24;(with_reducible refine (HN3.out _).mono ?_);rintro e w2 ⟨rfl,rfl⟩) | (go_at_call 24;(with_reducible refine (HN1.out _).mono ?_);rintro e w2 ⟨rfl,rfl⟩) | (go_at_call 24;(with_reducible refine (HD1.out _).mono ?_);rintro e w2 ⟨rfl,rfl⟩))
                all_goals (first | (exfalso;have hl_:=HL.out;omega) | (go_ret;exact ⟨ret_bool (by rw [← HF.out,← HSZ.out];simp [exE,hn0,hk1,hk2,HL.out]),bq⟩))
              · have he0:nm.data.toList ≠ []:=ne_data he
                have he1:nm.toList.isEmpty = false:=by rw [Lib.toList_data];simpa using he0
                have he2:¬ nm.toList = []:=by rw [Lib.toList_data];exact he0
                have HE:=hid he
                clear he he0
                go_wp2_with (first | (go_at_call 23;refine (HRI.out _).mono ?_;rintro e w2 ⟨rfl,hb2⟩;obtain ⟨hc2,hf2⟩:=bcell hb2) | (go_at_call 24;(with_reducible refine (HN2.out _).mono ?_);rintro e w2 ⟨rfl,rfl⟩) | (go_at_call 24;(with_reducible refine (HN3.out _).mono ?_);rintro e w2 ⟨rfl,rfl⟩) | (go_at_call 24;(with_reducible refine (HN1.out _).mono ?_);rintro e w2 ⟨rfl,rfl⟩) | (go_at_call 24;(with_reducible refine (HD1.out _).mono ?_);rintro e w2 ⟨rfl,rfl⟩))
                all_goals (first | (exfalso;have hl_:=HL.out;omega) | (go_ret;exact ⟨ret_bool (by rw [← HF.out,← HSZ.out];rw [exE_nm (k:=3) (by first | assumption | decide) (by first | assumption | decide) HE.out];rfl),bq⟩))
            · have hl1:((args.len:Int) == 1) = false:=by rw [beq_eq_false_iff_ne];omega
              have HL:=hid hl0
              clear hl0
              go_wp2_with (first | (go_at_call 23;refine (HRI.out _).mono ?_;rintro e w2 ⟨rfl,hb2⟩;obtain ⟨hc2,hf2⟩:=bcell hb2) | (go_at_call 24;(with_reducible refine (HN2.out _).mono ?_);rintro e w2 ⟨rfl,rfl⟩) | (go_at_call 24;(with_reducible refine (HN3.out _).mono ?_);rintro e w2 ⟨rfl,rfl⟩) | (go_at_call 24;(with_reducible refine (HN1.out _).mono ?_);rintro e w2 ⟨rfl,rfl⟩) | (go_at_call 24;(with_reducible refine (HD1.out _).mono ?_);rintro e w2 ⟨rfl,rfl⟩))
              all_goals (first | (exfalso;have hl_:=HL.out;omega) | (go_ret;exact ⟨ret_bool (by rw [← HF.out,← HSZ.out];rw [exE_len (k:=3) (by first | assumption | decide) (by first | assumption | decide) HL.out];rfl),bq⟩))
          · have hk3':(k == 3) = false:=beq_eq_false_iff_ne.2 hk3
            by_cases hk4:k = 4
            · subst hk4
              by_cases hl0:args.len = 1
              · have hl1:((args.len:Int) == 1) = true:=by rw [beq_iff_eq];omega
                have HL:=hid hl0
                clear hl0
                by_cases he:nm = ⟨#[]⟩
                · subst he
                  go_wp2_with (first | (go_at_call 23;refine (HRI.out _).mono ?_;rintro e w2 ⟨rfl,hb2⟩;obtain ⟨hc2,hf2⟩:=bcell hb2) | (go_at_call 24;(with_reducible refine (HN2.out _).mono ?_);rintro e w2 ⟨rfl,rfl⟩) | (go_at_call 24;(with_reducible refine (HN3.out _).mono ?_);rintro e w2 ⟨rfl,rfl⟩) | (go_at_call 24;(with_reducible refine (HN1.out _).mono ?_);rintro e w2 ⟨rfl,rfl⟩) | (go_at_call 24;(with_reducible refine (HD1.out _).mono ?_);rintro e w2 ⟨rfl,rfl⟩))
                  all_goals (first | (exfalso;have hl_:=HL.out;omega) | (go_ret;exact ⟨ret_bool (by rw [← HF.out,← HSZ.out];simp [exE,hn0,hk1,hk2,hk3,HL.out]),bq⟩))
                · have he0:nm.data.toList ≠ []:=ne_data he
                  have he1:nm.toList.isEmpty = false:=by rw [Lib.toList_data];simpa using he0
                  have he2:¬ nm.toList = []:=by rw [Lib.toList_data];exact he0
                  have HE:=hid he
                  clear he he0
                  go_wp2_with (first | (go_at_call 23;refine (HRI.out _).mono ?_;rintro e w2 ⟨rfl,hb2⟩;obtain ⟨hc2,hf2⟩:=bcell hb2) | (go_at_call 24;(with_reducible refine (HN2.out _).mono ?_);rintro e w2 ⟨rfl,rfl⟩) | (go_at_call 24;(with_reducible refine (HN3.out _).mono ?_);rintro e w2 ⟨rfl,rfl⟩) | (go_at_call 24;(with_reducible refine (HN1.out _).mono ?_);rintro e w2 ⟨rfl,rfl⟩) | (go_at_call 24;(with_reducible refine (HD1.out _).mono ?_);rintro e w2 ⟨rfl,rfl⟩))
                  all_goals (first | (exfalso;have hl_:=HL.out;omega) | (go_ret;exact ⟨ret_bool (by rw [← HF.out,← HSZ.out];rw [exE_nm (k:=4) (by first | assumption | decide) (by first | assumption | decide) HE.out];rfl),bq⟩))
              · have hl1:((args.len:Int) == 1) = false:=by rw [beq_eq_false_iff_ne];omega
                have HL:=hid hl0
                clear hl0
                go_wp2_with (first | (go_at_call 23;refine (HRI.out _).mono ?_;rintro e w2 ⟨rfl,hb2⟩;obtain ⟨hc2,hf2⟩:=bcell hb2) | (go_at_call 24;(with_reducible refine (HN2.out _).mono ?_);rintro e w2 ⟨rfl,rfl⟩) | (go_at_call 24;(with_reducible refine (HN3.out _).mono ?_);rintro e w2 ⟨rfl,rfl⟩) | (go_at_call 24;(with_reducible refine (HN1.out _).mono ?_);rintro e w2 ⟨rfl,rfl⟩) | (go_at_call 24;(with_reducible refine (HD1.out _).mono ?_);rintro e w2 ⟨rfl,rfl⟩))
                all_goals (first | (exfalso;have hl_:=HL.out;omega) | (go_ret;exact ⟨ret_bool (by rw [← HF.out,← HSZ.out];rw [exE_len (k:=4) (by first | assumption | decide) (by first | assumption | decide) HL.out];rfl),bq⟩))
            · have hk4':(k == 4) = false:=beq_eq_false_iff_ne.2 hk4
              by_cases hk5:k = 5
              · subst hk5
                by_cases hl0:args.len = 1
                · have hl1:((args.len:Int) == 1) = true:=by rw [beq_iff_eq];omega
                  have HL:=hid hl0
                  clear hl0
                  by_cases he:nm = ⟨#[]⟩
                  · subst he
                    cases hib:inB n 0 100 with
                    | false =>
                      rw [hib] at HN2
                      go_wp2_with (first | (go_at_call 23;refine (HRI.out _).mono ?_;rintro e w2 ⟨rfl,hb2⟩;obtain ⟨hc2,hf2⟩:=bcell hb2) | (go_at_call 24;(with_reducible refine (HN2.out _).mono ?_);rintro e w2 ⟨rfl,rfl⟩) | (go_at_call 24;(with_reducible refine (HN3.out _).mono ?_);rintro e w2 ⟨rfl,rfl⟩) | (go_at_call 24;(with_reducible refine (HN1.out _).mono ?_);rintro e w2 ⟨rfl,rfl⟩) | (go_at_call 24;(with_reducible refine (HD1.out _).mono ?_);rintro e w2 ⟨rfl,rfl⟩))
                      all_goals (first | (exfalso;have hl_:=HL.out;omega) | (go_ret;exact ⟨ret_bool (by rw [← HF.out,← HSZ.out];simp [exE,hn0,hk1,hk2,hk3,hk4,HL.out,hib]),bq⟩))
                    | true =>
                      rw [hib] at HN2
                      go_wp2_with (first | (go_at_call 23;refine (HRI.out _).mono ?_;rintro e w2 ⟨rfl,hb2⟩;obtain ⟨hc2,hf2⟩:=bcell hb2) | (go_at_call 24;(with_reducible refine (HN2.out _).mono ?_);rintro e w2 ⟨rfl,rfl⟩) | (go_at_call 24;(with_reducible refine (HN3.out _).mono ?_);rintro e w2 ⟨rfl,rfl⟩) | (go_at_call 24;(with_reducible refine (HN1.out _).mono ?_);rintro e w2 ⟨rfl,rfl⟩) | (go_at_call 24;(with_reducible refine (HD1.out _).mono ?_);rintro e w2 ⟨rfl,rfl⟩))
                      all_goals (first | (exfalso;have hl_:=HL.out;omega) | (go_ret;exact ⟨ret_bool (by rw [← HF.out,← HSZ.out];simp [exE,hn0,hk1,hk2,hk3,hk4,HL.out,hib]),bq⟩))
                  · have he0:nm.data.toList ≠ []:=ne_data he
                    have he1:nm.toList.isEmpty = false:=by rw [Lib.toList_data];simpa using he0
                    have he2:¬ nm.toList = []:=by rw [Lib.toList_data];exact he0
                    have HE:=hid he
                    clear he he0
                    go_wp2_with (first | (go_at_call 23;refine (HRI.out _).mono ?_;rintro e w2 ⟨rfl,hb2⟩;obtain ⟨hc2,hf2⟩:=bcell hb2) | (go_at_call 24;(with_reducible refine (HN2.out _).mono ?_);rintro e w2 ⟨rfl,rfl⟩) | (go_at_call 24;(with_reducible refine (HN3.out _).mono ?_);rintro e w2 ⟨rfl,rfl⟩) | (go_at_call 24;(with_reducible refine (HN1.out _).mono ?_);rintro e w2 ⟨rfl,rfl⟩) | (go_at_call 24;(with_reducible refine (HD1.out _).mono ?_);rintro e w2 ⟨rfl,rfl⟩))
                    all_goals (first | (exfalso;have hl_:=HL.out;omega) | (go_ret;exact ⟨ret_bool (by rw [← HF.out,← HSZ.out];rw [exE_nm (k:=5) (by first | assumption | decide) (by first | assumption | decide) HE.out];rfl),bq⟩))
                · have hl1:((args.len:Int) == 1) = false:=by rw [beq_eq_false_iff_ne];omega
                  have HL:=hid hl0
                  clear hl0
                  go_wp2_with (first | (go_at_call 23;refine (HRI.out _).mono ?_;rintro e w2 ⟨rfl,hb2⟩;obtain ⟨hc2,hf2⟩:=bcell hb2) | (go_at_call 24;(with_reducible refine (HN2.out _).mono ?_);rintro e w2 ⟨rfl,rfl⟩) | (go_at_call 24;(with_reducible refine (HN3.out _).mono ?_);rintro e w2 ⟨rfl,rfl⟩) | (go_at_call 24;(with_reducible refine (HN1.out _).mono ?_);rintro e w2 ⟨rfl,rfl⟩) | (go_at_call 24;(with_reducible refine (HD1.out _).mono ?_);rintro e w2 ⟨rfl,rfl⟩))
                  all_goals (first | (exfalso;have hl_:=HL.out;omega) | (go_ret;exact ⟨ret_bool (by rw [← HF.out,← HSZ.out];rw [exE_len (k:=5) (by first | assumption | decide) (by first | assumption | decide) HL.out];rfl),bq⟩))
              · have hk5':(k == 5) = false:=beq_eq_false_iff_ne.2 hk5
                by_cases hk6:k = 6
                · subst hk6
                  by_cases hl0:args.len = 1
                  · have hl1:((args.len:Int) == 1) = true:=by rw [beq_iff_eq];omega
                    have HL:=hid hl0
                    clear hl0
                    by_cases he:nm = ⟨#[]⟩
                    · subst he
                      go_wp2_with (first | (go_at_call 23;refine (HRI.out _).mono ?_;rintro e w2 ⟨rfl,hb2⟩;obtain ⟨hc2,hf2⟩:=bcell hb2) | (go_at_call 24;(with_reducible refine (HN2.out _).mono ?_);rintro e w2 ⟨rfl,rfl⟩) | (go_at_call 24;(with_reducible refine (HN3.out _).mono ?_);rintro e w2 ⟨rfl,rfl⟩) | (go_at_call 24;(with_reducible refine (HN1.out _).mono ?_);rintro e w2 ⟨rfl,rfl⟩) | (go_at_call 24;(with_reducible refine (HD1.out _).mono ?_);rintro e w2 ⟨rfl,rfl⟩))
                      all_goals (first | (exfalso;have hl_:=HL.out;omega) | (go_ret;exact ⟨ret_bool (by rw [← HF.out,← HSZ.out];simp [exE,hn0,hk1,hk2,hk3,hk4,hk5,HL.out]),bq⟩))
                    · have he0:nm.data.toList ≠ []:=ne_data he
                      have he1:nm.toList.isEmpty = false:=by rw [Lib.toList_data];simpa using he0
                      have he2:¬ nm.toList = []:=by rw [Lib.toList_data];exact he0
                      have HE:=hid he
                      clear he he0
                      go_wp2_with (first | (go_at_call 23;refine (HRI.out _).mono ?_;rintro e w2 ⟨rfl,hb2⟩;obtain ⟨hc2,hf2⟩:=bcell hb2) | (go_at_call 24;(with_reducible refine (HN2.out _).mono ?_);rintro e w2 ⟨rfl,rfl⟩) | (go_at_call 24;(with_reducible refine (HN3.out _).mono ?_);rintro e w2 ⟨rfl,rfl⟩) | (go_at_call 24;(with_reducible refine (HN1.out _).mono ?_);rintro e w2 ⟨rfl,rfl⟩) | (go_at_call 24;(with_reducible refine (HD1.out _).mono ?_);rintro e w2 ⟨rfl,rfl⟩))
                      all_goals (first | (exfalso;have hl_:=HL.out;omega) | (go_ret;exact ⟨ret_bool (by rw [← HF.out,← HSZ.out];rw [exE_nm (k:=6) (by first | assumption | decide) (by first | assumption | decide) HE.out];rfl),bq⟩))
                  · have hl1:((args.len:Int) == 1) = false:=by rw [beq_eq_false_iff_ne];omega
                    have HL:=hid hl0
                    clear hl0
                    go_wp2_with (first | (go_at_call 23;refine (HRI.out _).mono ?_;rintro e w2 ⟨rfl,hb2⟩;obtain ⟨hc2,hf2⟩:=bcell hb2) | (go_at_call 24;(with_reducible refine (HN2.out _).mono ?_);rintro e w2 ⟨rfl,rfl⟩) | (go_at_call 24;(with_reducible refine (HN3.out _).mono ?_);rintro e w2 ⟨rfl,rfl⟩) | (go_at_call 24;(with_reducible refine (HN1.out _).mono ?_);rintro e w2 ⟨rfl,rfl⟩) | (go_at_call 24;(with_reducible refine (HD1.out _).mono ?_);rintro e w2 ⟨rfl,rfl⟩))
                    all_goals (first | (exfalso;have hl_:=HL.out;omega) | (go_ret;exact ⟨ret_bool (by rw [← HF.out,← HSZ.out];rw [exE_len (k:=6) (by first | assumption | decide) (by first | assumption | decide) HL.out];rfl),bq⟩))
                · have hk6':(k == 6) = false:=beq_eq_false_iff_ne.2 hk6
                  by_cases hk7:k = 7
                  · subst hk7
                    by_cases hl0:args.len = 1
                    · have hl1:((args.len:Int) == 1) = true:=by rw [beq_iff_eq];omega
                      have HL:=hid hl0
                      clear hl0
                      by_cases he:nm = ⟨#[]⟩
                      · subst he
                        go_wp2_with (first | (go_at_call 23;refine (HRI.out _).mono ?_;rintro e w2 ⟨rfl,hb2⟩;obtain ⟨hc2,hf2⟩:=bcell hb2) | (go_at_call 24;(with_reducible refine (HN2.out _).mono ?_);rintro e w2 ⟨rfl,rfl⟩) | (go_at_call 24;(with_reducible refine (HN3.out _).mono ?_);rintro e w2 ⟨rfl,rfl⟩) | (go_at_call 24;(with_reducible refine (HN1.out _).mono ?_);rintro e w2 ⟨rfl,rfl⟩) | (go_at_call 24;(with_reducible refine (HD1.out _).mono ?_);rintro e w2 ⟨rfl,rfl⟩))
                        all_goals (first | (exfalso;have hl_:=HL.out;omega) | (go_ret;exact ⟨ret_bool (by rw [← HF.out,← HSZ.out];simp [exE,hn0,hk1,hk2,hk3,hk4,hk5,hk6,HL.out]),bq⟩))
                      · have he0:nm.data.toList ≠ []:=ne_data he
                        have he1:nm.toList.isEmpty = false:=by rw [Lib.toList_data];simpa using he0
                        have he2:¬ nm.toList = []:=by rw [Lib.toList_data];exact he0
                        have HE:=hid he
                        clear he he0
                        go_wp2_with (first | (go_at_call 23;refine (HRI.out _).mono ?_;rintro e w2 ⟨rfl,hb2⟩;obtain ⟨hc2,hf2⟩:=bcell hb2) | (go_at_call 24;(with_reducible refine (HN2.out _).mono ?_);rintro e w2 ⟨rfl,rfl⟩) | (go_at_call 24;(with_reducible refine (HN3.out _).mono ?_);rintro e w2 ⟨rfl,rfl⟩) | (go_at_call 24;(with_reducible refine (HN1.out _).mono ?_);rintro e w2 ⟨rfl,rfl⟩) | (go_at_call 24;(with_reducible refine (HD1.out _).mono ?_);rintro e w2 ⟨rfl,rfl⟩))
                        all_goals (first | (exfalso;have hl_:=HL.out;omega) | (go_ret;exact ⟨ret_bool (by rw [← HF.out,← HSZ.out];rw [exE_nm (k:=7) (by first | assumption | decide) (by first | assumption | decide) HE.out];rfl),bq⟩))
                    · have hl1:((args.len:Int) == 1) = false:=by rw [beq_eq_false_iff_ne];omega
                      have HL:=hid hl0
                      clear hl0
                      go_wp2_with (first | (go_at_call 23;refine (HRI.out _).mono ?_;rintro e w2 ⟨rfl,hb2⟩;obtain ⟨hc2,hf2⟩:=bcell hb2) | (go_at_call 24;(with_reducible refine (HN2.out _).mono ?_);rintro e w2 ⟨rfl,rfl⟩) | (go_at_call 24;(with_reducible refine (HN3.out _).mono ?_);rintro e w2 ⟨rfl,rfl⟩) | (go_at_call 24;(with_reducible refine (HN1.out _).mono ?_);rintro e w2 ⟨rfl,rfl⟩) | (go_at_call 24;(with_reducible refine (HD1.out _).mono ?_);rintro e w2 ⟨rfl,rfl⟩))
                      all_goals (first | (exfalso;have hl_:=HL.out;omega) | (go_ret;exact ⟨ret_bool (by rw [← HF.out,← HSZ.out];rw [exE_len (k:=7) (by first | assumption | decide) (by first | assumption | decide) HL.out];rfl),bq⟩))
                  · have hk7':(k == 7) = false:=beq_eq_false_iff_ne.2 hk7
                    by_cases hk8:k = 8
                    · subst hk8
                      by_cases hl0:args.len = 1
                      · have hl1:((args.len:Int) == 1) = true:=by rw [beq_iff_eq];omega
                        have HL:=hid hl0
                        clear hl0
                        by_cases he:nm = ⟨#[]⟩
                        · subst he
                          go_wp2_with (first | (go_at_call 23;refine (HRI.out _).mono ?_;rintro e w2 ⟨rfl,hb2⟩;obtain ⟨hc2,hf2⟩:=bcell hb2) | (go_at_call 24;(with_reducible refine (HN2.out _).mono ?_);rintro e w2 ⟨rfl,rfl⟩) | (go_at_call 24;(with_reducible refine (HN3.out _).mono ?_);rintro e w2 ⟨rfl,rfl⟩) | (go_at_call 24;(with_reducible refine (HN1.out _).mono ?_);rintro e w2 ⟨rfl,rfl⟩) | (go_at_call 24;(with_reducible refine (HD1.out _).mono ?_);rintro e w2 ⟨rfl,rfl⟩))
                          all_goals (first | (exfalso;have hl_:=HL.out;omega) | (go_ret;exact ⟨ret_bool (by rw [← HF.out,← HSZ.out];simp [exE,hn0,hk1,hk2,hk3,hk4,hk5,hk6,hk7,HL.out]),bq⟩))
                        · have he0:nm.data.toList ≠ []:=ne_data he
                          have he1:nm.toList.isEmpty = false:=by rw [Lib.toList_data];simpa using he0
                          have he2:¬ nm.toList = []:=by rw [Lib.toList_data];exact he0
                          have HE:=hid he
                          clear he he0
                          go_wp2_with (first | (go_at_call 23;refine (HRI.out _).mono ?_;rintro e w2 ⟨rfl,hb2⟩;obtain ⟨hc2,hf2⟩:=bcell hb2) | (go_at_call 24;(with_reducible refine (HN2.out _).mono ?_);rintro e w2 ⟨rfl,rfl⟩) | (go_at_call 24;(with_reducible refine (HN3.out _).mono ?_);rintro e w2 ⟨rfl,rfl⟩) | (go_at_call 24;(with_reducible refine (HN1.out _).mono ?_);rintro e w2 ⟨rfl,rfl⟩) | (go_at_call 24;(with_reducible refine (HD1.out _).mono ?_);rintro e w2 ⟨rfl,rfl⟩))
                          all_goals (first | (exfalso;have hl_:=HL.out;omega) | (go_ret;exact ⟨ret_bool (by rw [← HF.out,← HSZ.out];rw [exE_nm (k:=8) (by first | assumption | decide) (by first | assumption | decide) HE.out];rfl),bq⟩))
                      · have hl1:((args.len:Int) == 1) = false:=by rw [beq_eq_false_iff_ne];omega
                        have HL:=hid hl0
                        clear hl0
                        go_wp2_with (first | (go_at_call 23;refine (HRI.out _).mono ?_;rintro e w2 ⟨rfl,hb2⟩;obtain ⟨hc2,hf2⟩:=bcell hb2) | (go_at_call 24;(with_reducible refine (HN2.out _).mono ?_);rintro e w2 ⟨rfl,rfl⟩) | (go_at_call 24;(with_reducible refine (HN3.out _).mono ?_);rintro e w2 ⟨rfl,rfl⟩) | (go_at_call 24;(with_reducible refine (HN1.out _).mono ?_);rintro e w2 ⟨rfl,rfl⟩) | (go_at_call 24;(with_reducible refine (HD1.out _).mono ?_);rintro e w2 ⟨rfl,rfl⟩))
                        all_goals (first | (exfalso;have hl_:=HL.out;omega) | (go_ret;exact ⟨ret_bool (by rw [← HF.out,← HSZ.out];rw [exE_len (k:=8) (by first | assumption | decide) (by first | assumption | decide) HL.out];rfl),bq⟩))
                    · have hk8':(k == 8) = false:=beq_eq_false_iff_ne.2 hk8
                      by_cases hl0:args.len = 1
                      · have hl1:((args.len:Int) == 1) = true:=by rw [beq_iff_eq];omega
                        have HL:=hid hl0
                        clear hl0
                        by_cases he:nm = ⟨#[]⟩
                        · subst he
                          go_wp2_with (first | (go_at_call 23;refine (HRI.out _).mono ?_;rintro e w2 ⟨rfl,hb2⟩;obtain ⟨hc2,hf2⟩:=bcell hb2) | (go_at_call 24;(with_reducible refine (HN2.out _).mono ?_);rintro e w2 ⟨rfl,rfl⟩) | (go_at_call 24;(with_reducible refine (HN3.out _).mono ?_);rintro e w2 ⟨rfl,rfl⟩) | (go_at_call 24;(with_reducible refine (HN1.out _).mono ?_);rintro e w2 ⟨rfl,rfl⟩) | (go_at_call 24;(with_reducible refine (HD1.out _).mono ?_);rintro e w2 ⟨rfl,rfl⟩))
                          all_goals (first | (exfalso;have hl_:=HL.out;omega) | (go_ret;exact ⟨ret_bool (by rw [← HF.out,← HSZ.out];simp [exE,hn0,hk1,hk2,hk3,hk4,hk5,hk6,hk7,hk8,HL.out]),bq⟩))
                        · have he0:nm.data.toList ≠ []:=ne_data he
                          have he1:nm.toList.isEmpty = false:=by rw [Lib.toList_data];simpa using he0
                          have he2:¬ nm.toList = []:=by rw [Lib.toList_data];exact he0
                          have HE:=hid he
                          clear he he0
                          go_wp2_with (first | (go_at_call 23;refine (HRI.out _).mono ?_;rintro e w2 ⟨rfl,hb2⟩;obtain ⟨hc2,hf2⟩:=bcell hb2) | (go_at_call 24;(with_reducible refine (HN2.out _).mono ?_);rintro e w2 ⟨rfl,rfl⟩) | (go_at_call 24;(with_reducible refine (HN3.out _).mono ?_);rintro e w2 ⟨rfl,rfl⟩) | (go_at_call 24;(with_reducible refine (HN1.out _).mono ?_);rintro e w2 ⟨rfl,rfl⟩) | (go_at_call 24;(with_reducible refine (HD1.out _).mono ?_);rintro e w2 ⟨rfl,rfl⟩))
                          all_goals (first | (exfalso;have hl_:=HL.out;omega) | (go_ret;exact ⟨ret_bool (by rw [← HF.out,← HSZ.out];rw [exE_nm (k:=k) (by first | assumption | decide) (by first | assumption | decide) HE.out];rfl),bq⟩))
                      · have hl1:((args.len:Int) == 1) = false:=by rw [beq_eq_false_iff_ne];omega
                        have HL:=hid hl0
                        clear hl0
                        go_wp2_with (first | (go_at_call 23;refine (HRI.out _).mono ?_;rintro e w2 ⟨rfl,hb2⟩;obtain ⟨hc2,hf2⟩:=bcell hb2) | (go_at_call 24;(with_reducible refine (HN2.out _).mono ?_);rintro e w2 ⟨rfl,rfl⟩) | (go_at_call 24;(with_reducible refine (HN3.out _).mono ?_);rintro e w2 ⟨rfl,rfl⟩) | (go_at_call 24;(with_reducible refine (HN1.out _).mono ?_);rintro e w2 ⟨rfl,rfl⟩) | (go_at_call 24;(with_reducible refine (HD1.out _).mono ?_);rintro e w2 ⟨rfl,rfl⟩))
                        all_goals (first | (exfalso;have hl_:=HL.out;omega) | (go_ret;exact ⟨ret_bool (by rw [← HF.out,← HSZ.out];rw [exE_len (k:=k) (by first | assumption | decide) (by first | assumption | decide) HL.out];rfl),bq⟩))
end Go.Proofs.YteaiemfhlpoieaaGreatDoor.syn
