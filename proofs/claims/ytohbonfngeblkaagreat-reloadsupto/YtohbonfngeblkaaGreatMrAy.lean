import Derived.Test.YtohbonfngeblkaaGreatMrAx
import Derived.Test.YtohbonfngeblkaaGreatMrAc
namespace Go.Proofs.YtohbonfngeblkaaGreat
open Go.RowKit
namespace Lw
open Co
theorem run_reload {S : Sta} {X : Aux} (h : Run1 S X) {a : Ans} (ha : a.err = 0 → Okt a.tab.1 a.tab.2) : Run1 (cReload S X a).S (cReload S X a).X ∧ pot ((cReload S X a).S, (cReload S X a).X.op) = pot (S, X.op) := by
  obtain ⟨g, hpl⟩ := h.pln
  obtain ⟨k1, ⟨g', k2, _, _⟩, _, k4⟩ := reload_all h.good hpl ha
  refine ⟨⟨k1, ⟨g', k2⟩, ?_, ?_⟩, k4⟩
  · unfold cReload
    split
    · exact h.hps
    · split
      · exact h.hps
      · exact fwd_len _ _ _ hpl.tab.len
  · unfold cReload
    split
    · exact h.plan
    · split
      · exact h.plan
      · rename_i h1 h2
        exact diff_len _ _ _ _ hpl.tab.len (ha (Classical.not_not.1 h2)).len
theorem reload_no {S : Sta} {X : Aux} {a : Ans} (h : ¬ S.plan.length = 0 ∨ ¬ a.err = 0) : cReload S X a = ⟨S, X, 0, if ¬ S.plan.length = 0 then 16 else (a.err : Int), if ¬ S.plan.length = 0 then 0 else (a.at' : Int)⟩ := by
  unfold cReload
  by_cases h1 : ¬ S.plan.length = 0
  · rw [if_pos h1, if_pos h1, if_pos h1]
  · rw [if_neg h1, if_neg h1, if_neg h1]
    rcases h with h | h
    · exact absurd h h1
    · rw [if_pos h]
set_option maxRecDepth 20000 in
set_option maxHeartbeats 8000000 in
theorem reloads_any (b1 : Int) (xs : List Pl) (xo : Option Addr) (nx xc : Nat) (b2 : Int) (ys : List Pl) (yo : Option Addr) (ny yc : Nat) (os : List Opk) (co : Option Addr) (n cc : Nat) (s : ByteArray) (w : World)
    (hr1 : RowAt w (.slice xo nx xc) nx (flatP xs)) (hn1 : xs.length = nx) (hm1 : nx ≤ maxLen) (hb1 : I64 b1) (hx1 : ∀ x ∈ xs, I64 x.sz ∧ I64 x.wt ∧ I64 x.fr)
    (hr2 : RowAt w (.slice yo ny yc) ny (flatP ys)) (hn2 : ys.length = ny) (hm2 : ny ≤ maxLen) (hb2 : I64 b2) (hx2 : ∀ x ∈ ys, I64 x.sz ∧ I64 x.wt ∧ I64 x.fr)
    (hr : RowAt w (.slice co n cc) n (flatK os)) (hn : os.length = n) (hI : ∀ x ∈ os, I64 x.b) (hq : n ≤ 268435456) (hs : s.size ≤ maxLen) :
    Calls Tryz.prog 8 #[.agg #[.int .i64 b1, .slice xo nx xc], .agg #[.int .i64 b2, .slice yo ny yc], .slice co n cc, .string s] w fun e w' => e = .returned (.bool true) ∧ Below w.heap.size w w' := by
  obtain ⟨W, hW⟩ : ∃ W, W = (w.alloc (bTab b1 (.slice xo nx xc))).alloc (bTab b2 (.slice yo ny yc)) := ⟨_, rfl⟩
  have hbW : Below w.heap.size w W := by rw [hW]; exact nx_trans (nx_alloc _ _) (nx_alloc _ _)
  have HW : Hid (W = (w.alloc (bTab b1 (.slice xo nx xc))).alloc (bTab b2 (.slice yo ny yc)) ∧ W.heap[w.heap.size]? = some (bTab b1 (.slice xo nx xc)) ∧ W.heap[w.heap.size + 1]? = some (bTab b2 (.slice yo ny yc)) ∧ Below w.heap.size w W) := by
    refine ⟨hW, ?_, ?_, hbW⟩
    · rw [hW]; exact (heap_alloc_lt _ _ (by simp)).trans (heap_alloc_at _ _ rfl)
    · rw [hW]; exact heap_alloc_at _ _ (by simp)
  have HO := hideIt (gOpened b1 xs xo nx xc b2 ys yo ny yc W (hr1.nx hbW) hn1 hm1 hb1 hx1 (hr2.nx hbW) hn2 hm2 hb2 hx2)
  have HR : Hid (RowAt W (.slice co n cc) n (flatK os) ∧ os.length = n ∧ ∀ x ∈ os, I64 x.b) := ⟨hr.nx hbW, hn, hI⟩
  have HSZ := hideIt hs
  clear hr1 hn1 hm1 hb1 hx1 hr2 hn2 hm2 hb2 hx2 hr hn hI hW hbW hs
  go_enter Tryz.func8, Tryz.ntmps8
  go_upto_region 1 with fail
  rw [← HW.out.1]
  obtain ⟨a0, a1⟩ := gblk2 HW.out.2.1
  obtain ⟨d0, d1⟩ := gblk2 HW.out.2.2.1
  go_wp2_with fail
  refine HO.out.mono ?_
  rintro e w1 ⟨gg, gp, S0, X0, Fp0, A, B, ao, ac, bo, bc, rfl, hgame, hokA, hokB, hfr, hF, hb1⟩
  have HI : Hid (ArrI W w1 gg gp S0 X0 Fp0 A B ao ac bo bc 0) := ⟨hgame, run1_fresh hokA hfr, hfr.pot, hF, hb1⟩
  have HK : Hid (Okt A.1 A.2 ∧ Okt B.1 B.2) := ⟨hokA, hokB⟩
  clear hgame hokA hokB hfr hF hb1 a0 a1 d0 d1
  go_wp2_with fail
  go_loopw [11] (fun i wr => ∃ k : Nat, k ≤ n ∧ i = .int .i64 k ∧ Hid (∃ S X Fp, ArrI W wr gg gp S X Fp A B ao ac bo bc k)) (fun i _ => n - (intOf i).toNat)
  case atStart => exact ⟨0, Nat.zero_le _, rfl, S0, X0, Fp0, HI.out⟩
  case round =>
    clear HI
    obtain ⟨k, hk, rfl, HH⟩ := hrel
    obtain ⟨S, X, Fp, hfi⟩ := HH.out
    have HF := hideIt hfi
    clear hfi
    by_cases hlt : k < n
    · obtain ⟨⟨kd, a, p⟩, hp⟩ : ∃ p, os[k]? = some p := ⟨_, List.getElem?_eq_getElem (by rw [HR.out.2.1]; exact hlt)⟩
      obtain ⟨bl, off, hao, hbl, c0, c1, c2⟩ := opk_at (HR.out.1.nx HF.out.bel) hp
      subst hao
      simp only at c0 c1 c2
      have hlti : (k : Int) < (n : Int) := by omega
      have hpb : I64 p := HR.out.2.2 _ (List.mem_of_getElem? hp)
      have hfit := fits_way HF.out.run HF.out.pot (by omega)
      obtain ⟨gl, hpln⟩ := HF.out.run.pln
      have HPL := hideIt (gplayA gg gp S X Fp A B ao ac bo bc wr kd a p gl HF.out.game HF.out.run.good hpln (by have := HF.out.run.plan; omega) hfit.2.1 HK.out.1 HK.out.2 HF.out.run.hps hpb)
      clear hp hfit hpln hpb
      go_wp2_with fail
      refine HPL.out.mono ?_
      rintro e w1 ⟨S', X', nn, er, ⟨rfl, Fp', hg1, hF1, hch1⟩, hstep⟩
      obtain ⟨hrun', hpot, _⟩ := step_run HK.out.1 HK.out.2 HF.out.run hstep
      have HN : Hid (∃ S X Fp, ArrI W w1 gg gp S X Fp A B ao ac bo bc (k + 1)) := ⟨S', X', Fp', HF.out.chg hg1 hF1 hch1 hrun' (by have := HF.out.pot; omega)⟩
      clear hg1 hF1 hch1 hstep hrun' hpot c0 c1 c2
      go_wp2_with fail
      go_roundw
      case rel => exact ⟨k + 1, by omega, by go_num, HN.out⟩
      case measure => simp [intOf]; omega
    · have hlti : ¬ (k : Int) < (n : Int) := by omega
      have hfit := fits_way HF.out.run HF.out.pot (by omega)
      have HSH := hideIt (show_any gp S X Fp wr HF.out.game.desk hfit.1)
      have HFT := hideIt hfit
      obtain ⟨x0, x1, x2, x3, x4⟩ := gblk5 HF.out.game.box
      clear hfit
      go_wp2_with fail
      refine HSH.out.mono ?_
      rintro e w2 ⟨v, rfl, hnew, hb2⟩
      obtain ⟨V, hV⟩ : ∃ V, V = w2.alloc (bSta S v) := ⟨_, rfl⟩
      obtain ⟨gs, hgs⟩ : ∃ gs, w2.heap.size = gs := ⟨_, rfl⟩
      have HV : Hid (V = w2.alloc (bSta S v) ∧ w2.heap.size = gs ∧ Snap V gs S v Fp ∧ ArrI W V gg gp S X Fp A B ao ac bo bc k ∧ W.heap.size ≤ gs) := by
        have h1 := snap_new hnew hb2 HF.out.game.desk.lt
        rw [← hV, hgs] at h1
        have hbV : Below wr.heap.size wr V := by rw [hV]; exact nx_trans hb2 (nx_alloc _ _)
        refine ⟨hV, hgs, h1, HF.out.below hbV, ?_⟩
        have e1 := HF.out.bel.size
        have e2 := hb2.size
        omega
      clear hnew hb2 hV hgs x0 x1 x2 x3 x4
      go_upto_region 9 with fail
      rw [← HV.out.1, HV.out.2.1]
      obtain ⟨a, haa⟩ : ∃ a, ans s = a := ⟨_, rfl⟩
      have HAO : Hid (a.err = 0 → Okt a.tab.1 a.tab.2) := fun h => by have := ans_okt s (by rw [haa]; exact h); rw [haa] at this; exact this
      have HRL := hideIt (pReload gp s S X Fp V HV.out.2.2.2.1.game.desk HSZ.out (by obtain ⟨g, hg⟩ := HF.out.run.pln; exact hg.tab.len) (by have := HF.out.run.plan; omega) (fun h => (ans_okt s h).len))
      rw [haa] at HRL
      have HCP : Hid (∀ u, Calls Tryz.prog 25 #[.string s] u fun e w' => Gave a u w' e) := fun u => by rw [← haa]; exact pcompile_any s u HSZ.out
      obtain ⟨⟨D, Y, nn, er, ln⟩, hcr⟩ : ∃ r, cReload S X a = r := ⟨_, rfl⟩
      have HRR := hideIt (run_reload HF.out.run HAO.out)
      rw [hcr] at HRL HRR
      simp only at HRL HRR
      have HCR := hideIt hcr
      obtain ⟨x0, x1, x2, x3, x4⟩ := gblk5 HV.out.2.2.2.1.game.box
      clear haa hcr
      go_wp2_with fail
      refine HRL.out.mono ?_
      rintro e w3 ⟨rfl, hm3⟩
      obtain ⟨Fp1, hg1, hF1, hch1⟩ := HV.out.2.2.2.1.game.moved hm3
      have H3 : Hid (ArrI W w3 gg gp D Y Fp1 A B ao ac bo bc k ∧ Snap w3 gs S v Fp1) := ⟨HV.out.2.2.2.1.chg hg1 hF1 hch1 HRR.out.1 (by have h1 := HRR.out.2; have h2 := HF.out.pot; omega), HV.out.2.2.1.moved hch1 hF1⟩
      have hfit1 := fits_way H3.out.1.run H3.out.1.pot (by omega)
      have HSH1 := hideIt (show_any gp D Y Fp1 w3 hg1.desk hfit1.1)
      have HFT1 := hideIt hfit1
      clear hm3 hg1 hF1 hch1 hfit1 x0 x1 x2 x3 x4
      obtain ⟨x0, x1, x2, x3, x4⟩ := gblk5 H3.out.1.game.box
      go_wp2_with fail
      refine HSH1.out.mono ?_
      rintro e w4 ⟨v', rfl, hnew, hb4⟩
      obtain ⟨V4, hV4⟩ : ∃ V4, V4 = w4.alloc (bSta D v') := ⟨_, rfl⟩
      obtain ⟨gt, hgt⟩ : ∃ gt, w4.heap.size = gt := ⟨_, rfl⟩
      have H4 : Hid (V4 = w4.alloc (bSta D v') ∧ w4.heap.size = gt ∧ Snap V4 gt D v' Fp1 ∧ Snap V4 gs S v Fp1 ∧ Below W.heap.size W V4 ∧ gs ≠ gt ∧ (∀ g, Blg S v g → g ≠ gt) ∧ (∀ g, Blg D v' g → g ≠ gs)) := by
        have h1 := snap_new hnew hb4 H3.out.1.game.desk.lt
        rw [← hV4, hgt] at h1
        have hbV : Below w3.heap.size w3 V4 := by rw [hV4]; exact nx_trans hb4 (nx_alloc _ _)
        have e1 := H3.out.2.lt
        have e2 := hb4.size
        exact ⟨hV4, hgt, h1, H3.out.2.below hbV, nx_trans H3.out.1.bel hbV, by omega, fun g hg => by have := (H3.out.2.blk g hg).1; omega, fun g hg => by have := (new_blk hnew g hg).1; omega⟩
      have HB4 : Hid (w3.heap.size ≤ gt) := by have := hb4.size; show _ ≤ _; omega
      clear hnew hb4 hV4 hgt x0 x1 x2 x3 x4
      go_upto_region 11 with fail
      rw [← H4.out.1, H4.out.2.1]
      go_wp2_with fail
      refine (HCP.out V4).mono ?_
      rintro e w5 ⟨uo, uc, rfl, hown, hb5⟩
      obtain ⟨⟨T1, T2⟩, ce, ca⟩ := a
      simp only at hown ⊢
      obtain ⟨nt, hnt⟩ : ∃ nt, T2.length = nt := ⟨_, rfl⟩
      obtain ⟨Z, hZ⟩ : ∃ Z, Z = w5.alloc (bTab T1 (.slice uo nt uc)) := ⟨_, rfl⟩
      obtain ⟨gu, hgu⟩ : ∃ gu, w5.heap.size = gu := ⟨_, rfl⟩
      have HZ : Hid (Z = w5.alloc (bTab T1 (.slice uo nt uc)) ∧ w5.heap.size = gu ∧ Z.heap[gu]? = some (bTab T1 (.slice uo nt uc)) ∧ Below V4.heap.size V4 Z ∧ RowAt Z (.slice uo nt uc) nt (flatP T2) ∧ T2.length = nt) := by
        refine ⟨hZ, hgu, by rw [hZ]; exact heap_alloc_at _ _ hgu.symm, by rw [hZ]; exact nx_trans hb5 (nx_alloc _ _), ?_, hnt⟩
        have h1 := (own_row hown).nx (nx_alloc w5 (bTab T1 (.slice uo nt uc)))
        rw [← hZ, hnt] at h1
        exact h1
      rw [hnt]
      clear hown hb5 hZ hgu hnt
      go_upto_region 12 with fail
      rw [← HZ.out.1, HZ.out.2.1]
      have HSS : Hid (Snap Z gs S v Fp1 ∧ Snap Z gt D v' Fp1) := ⟨H4.out.2.2.2.1.below HZ.out.2.2.2.1, H4.out.2.2.1.below HZ.out.2.2.2.1⟩
      have HBW : Hid (Below w.heap.size w Z) := nx_trans HW.out.2.2.2 (nx_trans H4.out.2.2.2.2.1 HZ.out.2.2.2.1)
      obtain ⟨s0, s1, s2, s3, s4, s5, s6⟩ := gblk7 HSS.out.1.box
      by_cases hno : ¬ S.plan.length = 0 ∨ ¬ ce = 0
      · have hcr := HCR.out
        rw [reload_no hno] at hcr
        obtain ⟨rfl, rfl, rfl, rfl, rfl⟩ := Rsp.mk.inj hcr
        have HUN : Hid (Calls Tryz.prog 26 #[staA S v, staA S v'] Z fun e w' => e = .returned (.bool false) ∧ Below Z.heap.size Z w') := by
          have q1 := HSS.out.1.sta
          have q2 := HSS.out.2.sta
          have hl6 : S.pools.length ≤ 6 := by obtain ⟨g, hg⟩ := HF.out.run.pln; exact hg.tab.len
          exact gUnlike S.bud S.pools S.srv S.wts S.plan S.begun S.back _ _ _ _ v.po v.pc v.so v.sc v.wo v.wc v.to v.tc v'.po v'.pc v'.so v'.sc v'.wo v'.wc v'.to v'.tc Z ⟨rfl, rfl, rfl, rfl⟩ ⟨by unfold maxLen; omega, HFT.out.2.2.1, HFT.out.2.2.2, by have := HF.out.run.plan; omega⟩ ⟨q1.p, q1.s, q1.t, q1.l⟩ ⟨q2.p, q2.s, q2.t, q2.l⟩
        simp only [staA] at HUN
        obtain ⟨t0, t1, t2, t3, t4, t5, t6⟩ := gblk7 HSS.out.2.box
        clear HCR HRL HRR HSH HSH1 HCP hcr
        have hp56 : S.plan.length ≤ 56 := HF.out.run.plan
        obtain ⟨n4, hn4⟩ : ∃ n4, S.plan.length = n4 := ⟨_, rfl⟩
        rw [hn4] at HUN s4 t4 hno hp56 ⊢
        by_cases hp0 : n4 = 0
        · subst hp0
          have hce : ¬ ce = 0 := by rcases hno with h | h; exact absurd rfl h; exact h
          have hcei : ¬ (ce : Int) = 0 := by omega
          simp only [not_true, if_false]
          clear hno hn4 hp56
          go_wp2_with fail
          refine HUN.out.mono ?_
          rintro e w6 ⟨rfl, hb6⟩
          have HB6 : Hid (Below w.heap.size w w6) := nx_trans HBW.out hb6
          clear hb6 s0 s1 s2 s3 s4 s5 s6 t0 t1 t2 t3 t4 t5 t6
          go_wp2_with fail
          go_ret
          exact ⟨rfl, HB6.out⟩
        · have hpi : (0 : Int) < (n4 : Int) := by omega
          have hpg : (n4 : Int) > 0 := by omega
          rw [if_pos hp0, if_pos hp0]
          clear hno hn4
          go_wp2_with fail
          refine HUN.out.mono ?_
          rintro e w6 ⟨rfl, hb6⟩
          have HB6 : Hid (Below w.heap.size w w6) := nx_trans HBW.out hb6
          clear hb6 s0 s1 s2 s3 s4 s5 s6 t0 t1 t2 t3 t4 t5 t6
          go_wp2_with fail
          go_ret
          exact ⟨rfl, HB6.out⟩
      · have hp0 : S.plan.length = 0 := by
          by_cases h : S.plan.length = 0
          · exact h
          · exact absurd (.inl h) hno
        have hce : ce = 0 := by
          by_cases h : ce = 0
          · exact h
          · exact absurd (.inr h) hno
        subst hce
        have hpe := List.length_eq_zero_iff.1 hp0
        have hcr := HCR.out
        unfold cReload at hcr
        rw [if_neg (by rw [hp0]; simp), if_neg (by simp)] at hcr
        obtain ⟨hD, hY, rfl, rfl, rfl⟩ := Rsp.mk.inj hcr
        simp only at hD
        obtain ⟨L, hL⟩ : ∃ L, Df.diffL S.bud S.pools T1 T2 = L := ⟨_, rfl⟩
        obtain ⟨nl, hnl⟩ : ∃ nl, L.length = nl := ⟨_, rfl⟩
        rw [hL] at hD
        have hex : S.begun = false ∧ S.back = false ∧ Okt S.bud S.pools := by obtain ⟨g, hg⟩ := HF.out.run.pln; exact ⟨(hg.none hpe).1, (hg.none hpe).2.1, hg.tab⟩
        have hnl56 : nl ≤ 56 := by
          have := H3.out.1.run.plan
          rw [← hD] at this
          rw [← hnl]; exact this
        obtain ⟨n1, hn1⟩ : ∃ n1, S.pools.length = n1 := ⟨_, rfl⟩
        obtain ⟨n2, hn2⟩ : ∃ n2, S.srv.length = n2 := ⟨_, rfl⟩
        obtain ⟨n3, hn3⟩ : ∃ n3, S.wts.length = n3 := ⟨_, rfl⟩
        have hOT := HAO.out rfl
        simp only at hOT
        have HDF : Hid (∀ u, Below Z.heap.size Z u → Calls Tryz.prog 27 #[.agg #[.int .i64 S.bud, .slice v.po n1 v.pc], .agg #[.int .i64 T1, .slice uo nt uc]] u fun e w' => ∃ vo vc, e = .returned (.tuple #[.slice vo nl vc, .int .i64 0]) ∧ RowAt w' (.slice vo nl vc) nl (flatT L) ∧ Below u.heap.size u w') := by
          intro u hu
          have ra := HSS.out.1.sta.p.nx hu
          have rb := HZ.out.2.2.2.2.1.nx hu
          rw [hn1] at ra
          refine (Df.pDiff true true S.bud v.po n1 v.pc S.pools T1 uo nt uc T2 u ra hn1 (fun _ => by rw [← hn1]; exact hex.2.2.len) rb HZ.out.2.2.2.2.2 (fun _ => by rw [← HZ.out.2.2.2.2.2]; exact hOT.len) (fun x hx => Df.isTab hex.2.2 (ra.nx hx) hn1) (fun x hx => Df.isTab hOT (rb.nx hx) HZ.out.2.2.2.2.2)).mono ?_
          rintro e w' ⟨vo, vc, rfl, ho, hb⟩
          have e1 : Df.gotL (true && true) S.bud S.pools T1 T2 = L := hL
          rw [e1, hnl] at ho ⊢
          exact ⟨vo, vc, rfl, own_row ho, hb⟩
        have HUN : Hid (∀ u, StaAt u S v → StaAt u D v' → Calls Tryz.prog 26 #[.agg #[.int .i64 S.bud, .slice v.po n1 v.pc, .slice v.so n2 v.sc, .slice v.wo n3 v.wc, .slice none 0 0, .bool false, .bool false], .agg #[.int .i64 S.bud, .slice v'.po n1 v'.pc, .slice v'.so n2 v'.sc, .slice v'.wo n3 v'.wc, .slice none 0 0, .bool false, .bool false]] u fun e w' => e = .returned (.bool false) ∧ Below u.heap.size u w') := by
          intro u q1 q2
          have hl6 := hex.2.2.len
          have p1 := q1.p
          have p2 := q1.s
          have p3 := q1.t
          have r1 := q2.p
          have r2 := q2.s
          have r3 := q2.t
          rw [← hD] at r1 r2 r3
          simp only [hn1, hn2, hn3] at p1 p2 p3 r1 r2 r3
          exact gUnlike S.bud S.pools S.srv S.wts [] false false n1 n2 n3 0 v.po v.pc v.so v.sc v.wo v.wc none 0 v'.po v'.pc v'.so v'.sc v'.wo v'.wc none 0 u ⟨hn1, hn2, hn3, rfl⟩ ⟨by unfold maxLen; omega, by rw [← hn2]; exact HFT.out.2.2.1, by rw [← hn3]; exact HFT.out.2.2.2, by omega⟩ ⟨p1, p2, p3, row_nil _ _ _⟩ ⟨r1, r2, r3, row_nil _ _ _⟩
        have HBX : Hid (Z.heap[gt]? = some (.cells #[.int .i64 S.bud, .slice v'.po n1 v'.pc, .slice v'.so n2 v'.sc, .slice v'.wo n3 v'.wc, .slice v'.to nl v'.tc, .bool false, .bool false] 33) ∧ Z.heap[gs]? = some (.cells #[.int .i64 S.bud, .slice v.po n1 v.pc, .slice v.so n2 v.sc, .slice v.wo n3 v.wc, .slice v.to 0 v.tc, .bool false, .bool false] 33) ∧ RowAt Z (.slice v'.to nl v'.tc) nl (flatT L)) := by
          have h1 := HSS.out.2.box
          have h2 := HSS.out.1.box
          have h3 := HSS.out.2.sta.l
          rw [← hD] at h1 h3
          simp only [bSta, hn1, hn2, hn3, hnl, hp0, hex.1, hex.2.1] at h1 h2 h3
          exact ⟨h1, h2, h3⟩
        clear s0 s1 s2 s3 s4 s5 s6
        obtain ⟨s0, s1, s2, s3, s4, s5, s6⟩ := gblk7 HBX.out.2.1
        obtain ⟨u0, u1⟩ := gblk2 HZ.out.2.2.1
        have HLL : Hid (L.length = nl) := hnl
        rw [hL, hnl]
        clear HCR HRL HRR HSH HSH1 HCP hcr hD hY hL hnl hn1 hn2 hn3 hex hOT hno hp0 hpe
        go_wp2_with fail
        refine (HDF.out Z (Below.refl _ _)).mono ?_
        rintro e w6 ⟨vo, vc, rfl, hrow, hb6⟩
        have H6 : Hid (Below Z.heap.size Z w6 ∧ RowAt w6 (.slice vo nl vc) nl (flatT L)) := ⟨hb6, hrow⟩
        clear hb6 hrow s0 s1 s2 s3 s4 s5 s6 u0 u1
        obtain ⟨t0, t1, t2, t3, t4, t5, t6⟩ := gblk7 (gblk HBX.out.1 H6.out.1)
        go_wp2_with fail
        clear t0 t1 t2 t3 t4 t5 t6
        go_loopw [23] (fun i wr => ∃ k : Nat, k ≤ nl ∧ i = .int .i64 k ∧ Hid (Below w6.heap.size w6 wr)) (fun i _ => nl - (intOf i).toNat)
        case atStart => exact ⟨0, Nat.zero_le _, rfl, Below.refl _ _⟩
        case round =>
          obtain ⟨j, hj, rfl, HB⟩ := hrel
          have hbz : Below Z.heap.size Z wr := nx_trans H6.out.1 HB.out
          by_cases hjt : j < nl
          · obtain ⟨⟨y0, y1, y2⟩, hp⟩ : ∃ p, L[j]? = some p := ⟨_, List.getElem?_eq_getElem (by rw [HLL.out]; exact hjt)⟩
            obtain ⟨bl, off, hao, hbl, c0, c1, c2⟩ := st_at (HBX.out.2.2.nx hbz) hp
            obtain ⟨bl', off', hao', hbl', d0, d1, d2⟩ := st_at (H6.out.2.nx HB.out) hp
            obtain ⟨t0, t1, t2, t3, t4, t5, t6⟩ := gblk7 (gblk HBX.out.1 hbz)
            rw [hao] at t4
            subst hao'
            clear hp hbl hbl' hao hbz t0 t1 t2 t3 t5 t6
            simp only at c0 c1 c2 d0 d1 d2
            have hlti : (j : Int) < (nl : Int) := by omega
            go_wp2_with fail
            go_quiet (fail)
            clear t4 c0 c1 c2 d0 d1 d2
            go_wp2_with fail
            go_roundw
            case rel => exact ⟨j + 1, by omega, by go_num, below_drewN HB.out _⟩
            case measure => simp [intOf]; omega
          · have hlti : ¬ (j : Int) < (nl : Int) := by omega
            have g1 := gblk HBX.out.1 hbz
            have g2 := gblk HBX.out.2.1 hbz
            obtain ⟨t0, t1, t2, t3, t4, t5, t6, tz⟩ := blk7d g1
            obtain ⟨s0, s1, s2, s3, s4, s5, s6, sz⟩ := blk7d g2
            have hne := H4.out.2.2.2.2.2.1
            obtain ⟨Q, hQ⟩ : ∃ Q, Q = (wr.setCell ⟨gt, 4, none⟩ (.slice none 0 0)).setCell ⟨gs, 4, none⟩ (.slice none 0 0) := ⟨_, rfl⟩
            have HQ : Hid (Q = (wr.setCell ⟨gt, 4, none⟩ (.slice none 0 0)).setCell ⟨gs, 4, none⟩ (.slice none 0 0)) := hQ
            have HQ2 : Hid (Q.heap[gt]? = some (.cells #[.int .i64 S.bud, .slice v'.po n1 v'.pc, .slice v'.so n2 v'.sc, .slice v'.wo n3 v'.wc, .slice none 0 0, .bool false, .bool false] 33) ∧ Q.heap[gs]? = some (.cells #[.int .i64 S.bud, .slice v.po n1 v.pc, .slice v.so n2 v.sc, .slice v.wo n3 v.wc, .slice none 0 0, .bool false, .bool false] 33) ∧ Below w.heap.size w Q ∧ StaAt Q S v ∧ StaAt Q D v') := by
              have c1 : Chg (fun y => y = gt) wr (wr.setCell ⟨gt, 4, none⟩ (.slice none 0 0)) := Chg.set (F := fun y => y = gt) wr gt 4 _ rfl
              have c2 : Chg (fun y => y = gs) (wr.setCell ⟨gt, 4, none⟩ (.slice none 0 0)) Q := by rw [hQ]; exact Chg.set (F := fun y => y = gs) _ gs 4 _ rfl
              have k1 := set7_4 g1 (.slice none 0 0)
              have k2 := (c1.block gs (Array.getElem?_eq_some_iff.1 g2).1 hne).trans g2
              refine ⟨(c2.block gt (Array.getElem?_eq_some_iff.1 k1).1 (fun e => hne e.symm)).trans k1, by rw [hQ]; exact set7_4 k2 (.slice none 0 0), ?_⟩
              have hbw : Below w.heap.size w wr := nx_trans HBW.out hbz
              have e1 := HW.out.2.2.2.size
              have e2 := HV.out.2.2.2.2
              have e3 := H4.out.2.2.2.1.lt
              have e4 : w.heap.size ≤ gt := by have h1 := HSS.out.2.lt; have h2 := H4.out.2.1; have h3 := H3.out.1.bel.size; have h4 := HB4.out; omega
              refine ⟨(hbw.trans (c1.below hbw.size (fun y hy => by rw [show y = gt from hy]; exact e4))).trans (c2.below (Nat.le_trans hbw.size c1.size) (fun y hy => by rw [show y = gs from hy]; omega)), ?_, ?_⟩
              · have q := HSS.out.1.below hbz
                exact sta_keep q.sta (Nat.le_trans c1.size c2.size) (fun g hg => (c2.block g (Nat.lt_of_lt_of_le (q.blk g hg).1 c1.size) (fun e => (q.blk g hg).2.2 e)).trans (c1.block g (q.blk g hg).1 (fun e => H4.out.2.2.2.2.2.2.1 g hg e)))
              · have q := HSS.out.2.below hbz
                exact sta_keep q.sta (Nat.le_trans c1.size c2.size) (fun g hg => (c2.block g (Nat.lt_of_lt_of_le (q.blk g hg).1 c1.size) (fun e => H4.out.2.2.2.2.2.2.2 g hg e)).trans (c1.block g (q.blk g hg).1 (fun e => (q.blk g hg).2.2 e)))
            clear hbz g1 g2 hQ
            go_upto_region 28 with fail
            rw [← HQ.out]
            clear t0 t1 t2 t3 t4 t5 t6 tz s0 s1 s2 s3 s4 s5 s6 sz hne
            obtain ⟨t0, t1, t2, t3, t4, t5, t6⟩ := gblk7 HQ2.out.1
            obtain ⟨s0, s1, s2, s3, s4, s5, s6⟩ := gblk7 HQ2.out.2.1
            have HU := hideIt (HUN.out Q HQ2.out.2.2.2.1 HQ2.out.2.2.2.2)
            go_wp2_with fail
            refine HU.out.mono ?_
            rintro e w7 ⟨rfl, hb7⟩
            have HB7 : Hid (Below w.heap.size w w7) := nx_trans HQ2.out.2.2.1 hb7
            clear hb7 t0 t1 t2 t3 t4 t5 t6 s0 s1 s2 s3 s4 s5 s6
            go_wp2_with fail
            go_ret
            exact ⟨rfl, HB7.out⟩
end Lw
end Go.Proofs.YtohbonfngeblkaaGreat
namespace Go.Proofs.YtohbonfngeblkaaGreat
namespace Lw
open Go.ChangeShapes Go.WideShapes Go.ChangeAt Go.RowKit Go.ChangeMaps
open Co
set_option maxRecDepth 100000 in
theorem reloads_contract (H : Type) (enc : TypeId × Value → H) (W : World) (base : Nat) (args : Array Value) (ds gs : List (DataW H)) (before : List MemPlace)
    (hval : ∀ (j : Nat) t v, Tryz.f8.params[j]? = some t → args[j]? = some v → Value.okWide Tryz.prog W .any base t v)
    (hW : DataW.Whole enc Tryz.prog Tryz.f8.params.toList Rows.reloadsSpec.vars false W args.toList ds gs before) (hk : Rows.uptoSmall H (ds ++ gs) = true) :
    Calls Tryz.prog 8 args W fun e W' => ∃ v, e = .returned v ∧ Rows.reloadsSpec.post enc Tryz.prog Tryz.f8 false true false false W args v W' := by
  have hW' := hW
  obtain ⟨p, q, hA0, hV, rfl, hfz, hnd⟩ := hW
  have hA : DataW.TrodAll enc Tryz.prog W 0 (fun _ => true) true Tryz.f8.params.toList args.toList ds p := hA0
  rw [Tryz.params8] at hA hval
  obtain ⟨v0, vs0, d0, ds0, p0, q0, hargs0, rfl, rfl, h0, r0⟩ := trodAll_cons hA
  obtain ⟨v1, vs1, d1, ds1, p1, q1, hargs1, rfl, rfl, h1, r1⟩ := trodAll_cons r0
  obtain ⟨v2, vs2, d2, ds2, p2, q2, hargs2, rfl, rfl, h2, r2⟩ := trodAll_cons r1
  obtain ⟨v3, vs3, d3, ds3, p3, q3, hargs3, rfl, rfl, h3, r3⟩ := trodAll_cons r2
  obtain ⟨rfl, rfl, rfl⟩ := trodAll_nil r3
  obtain rfl : args = #[v0, v1, v2, v3] := by cases args; simp_all
  obtain ⟨rfl, rfl⟩ := trodVars_none hV
  have hok0 := hval 0 24 v0 rfl rfl
  have hok1 := hval 1 24 v1 rfl rfl
  have hok2 := hval 2 25 v2 rfl rfl
  have hok3 := hval 3 9 v3 rfl rfl
  obtain ⟨b0, xo0, nx0, xc0, ps0, rfl, hps0, hn0, hm0, hb0, hx0⟩ := kopen_table hok0 h0
  obtain ⟨b1, xo1, nx1, xc1, ps1, rfl, hps1, hn1, hm1, hb1, hx1⟩ := kopen_table hok1 h1
  obtain ⟨co2, n2, cc2, os2, rfl, hrow2, hno2, hI2, hd2⟩ := open_opks hok2 h2
  obtain ⟨s3, rfl, rfl, rfl, hmax3⟩ := open_string Tryz.underlying9 hok3 h3
  clear hA0
  simp only [List.append_nil] at hW' hk
  have hbk : Rows.uptoBulkAll [d0, d1, d2, DataW.lit (H := H) (.string s3.data.toList)] ≤ 1048576 := of_decide_eq_true hk
  have hs2 : n2 ≤ 1048576 := gbulk_mem (d := d2) (by simp) hd2 hbk
  have hlt0 : ∀ x ∈ p0, x.block < W.heap.size := fun x hx => hW'.lt x (by simp [hx])
  have hlt1 : ∀ x ∈ p1, x.block < W.heap.size := fun x hx => hW'.lt x (by simp [hx])
  have hlt2 : ∀ x ∈ p2, x.block < W.heap.size := fun x hx => hW'.lt x (by simp [hx])
  refine (reloads_any b0 ps0 xo0 nx0 xc0 b1 ps1 xo1 nx1 xc1 os2 co2 n2 cc2 s3 W hps0 hn0 hm0 hb0 hx0 hps1 hn1 hm1 hb1 hx1 hrow2 hno2 (fun x hx => (hI2 x hx).2.2) (by omega) hmax3).mono fun e W' ⟨he, hb⟩ => ?_
  subst he
  refine ⟨_, rfl, _, _, _, [], p0 ++ (p1 ++ (p2 ++ ([] ++ []))), [], hW', ?_, ?_, rfl, hb.frame _, fun h => by cases h⟩
  · exact trodAll_cons_mk (shut_bool Tryz.underlying4 _) trodAll_mk0
  · exact trodAll_cons_mk (Below.trod laidOutG (by kernel_rfl) (of_decide_eq_true (by kernel_rfl)) h0 hb hlt0) (trodAll_cons_mk (Below.trod laidOutG (by kernel_rfl) (of_decide_eq_true (by kernel_rfl)) h1 hb hlt1) (trodAll_cons_mk (Below.trod laidOutG (by kernel_rfl) (of_decide_eq_true (by kernel_rfl)) h2 hb hlt2) (trodAll_cons_mk (shut_string Tryz.underlying9 hmax3) trodAll_mk0)))
set_option maxRecDepth 100000 in
theorem reloads_lifted (os : Os) (started : os.Started) (H : Type) (enc : TypeId × Value → H) (F : Stop.Interp) :
    ReturnsInHanded {} Tryz.checked os 8 .any ((Rows.OpenSpec.upto Rows.reloadsSpec).pre6 enc Tryz.prog Tryz.f8 Rows.reloadsUptoRow.domain false) (((Rows.OpenSpec.upto Rows.reloadsSpec).at F).post enc Tryz.prog Tryz.f8 false true false false) := by
  refine returnsInHanded_of_cond (C := Tryz.checked) (s := Rows.OpenSpec.upto Rows.reloadsSpec) (k := Rows.uptoSmall) rfl ownG started (by kernel_rfl) Tryz.func8
    (OpenSpec.witness (enc := enc) (C := Tryz.checked) (s := Rows.OpenSpec.upto Rows.reloadsSpec) (k := Rows.uptoSmall) rfl false ⟨#[], #[.agg #[.int .i64 0, .slice none 0 0], .agg #[.int .i64 0, .slice none 0 0], .slice none 0 0, .string .empty], []⟩ 8 (by kernel_rfl) (by kernel_rfl) (by kernel_rfl)
      (x := ([.agg [.lit (.int .i64 0), .nil], .agg [.lit (.int .i64 0), .nil], .nil, .lit (.string [])], [], [])) (by kernel_rfl) rfl (by kernel_rfl)) ?_
  intro W base args ds gs before hval hW _ hk _
  exact reloads_contract H enc W base args ds gs before hval hW hk
end Lw
theorem reloads_upto_said : Rows.ReloadsUptoSaid :=
  OpenClaim.holds_of_cond 8 Tryz.f8 rfl rfl rfl rfl rfl rfl rfl ⟨rfl, rfl, rfl, rfl, rfl⟩ rfl rfl rfl rfl rfl (by kernel_rfl) Tryz.func8 (by kernel_rfl)
    (of_decide_eq_true (by kernel_rfl)) (by unfold Func.isWrapper; first | (rw [if_pos (by decide +kernel)]; kernel_rfl) | (rw [if_neg (by decide +kernel)]; exact ⟨rfl, rfl⟩))
    (fun os started H enc _ F => Lw.reloads_lifted os started H enc F)
#print axioms reloads_upto_said
end Go.Proofs.YtohbonfngeblkaaGreat
