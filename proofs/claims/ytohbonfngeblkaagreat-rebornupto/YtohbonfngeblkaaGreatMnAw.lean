import Derived.Test.YtohbonfngeblkaaGreatMnAv
import Derived.BigQuiet
namespace Go.Proofs.YtohbonfngeblkaaGreat
open Go.RowKit
namespace Lw
open Co
theorem run_drop {S : Sta} {X : Aux} (h : Run1 S X) (hw : S.wts = []) (i : Nat) : Run1 (dropS S i) X := by
  induction i with
  | zero => exact h
  | succ i ih =>
    by_cases hi : i < S.srv.length
    · have hx : S.srv[i]? = some S.srv[i] := List.getElem?_eq_getElem hi
      have e := crash_drop h.good.fine.inv hw hx
      have hg := (good_crash ih.good S.srv[i].id 0 0).1
      have hr := (crash_pot (dropS S i) X.op S.srv[i].id).2
      rw [e] at hg hr
      exact run_lease ih hg hr
    · have e : dropS S (i + 1) = dropS S i := by
        unfold dropS
        rw [List.drop_eq_nil_of_le (by omega), List.drop_eq_nil_of_le (by omega)]
      rw [e]; exact ih
set_option maxRecDepth 20000 in
set_option maxHeartbeats 8000000 in
theorem reborn_any (b1 : Int) (xs : List Pl) (xo : Option Addr) (nx xc : Nat) (b2 : Int) (ys : List Pl) (yo : Option Addr) (ny yc : Nat) (os : List Opk) (co : Option Addr) (n cc : Nat) (ot : List Opk) (eo : Option Addr) (m ec : Nat) (ou : List Opk) (uo : Option Addr) (q uc : Nat) (w : World)
    (hr1 : RowAt w (.slice xo nx xc) nx (flatP xs)) (hn1 : xs.length = nx) (hm1 : nx ≤ maxLen) (hb1 : I64 b1) (hx1 : ∀ x ∈ xs, I64 x.sz ∧ I64 x.wt ∧ I64 x.fr)
    (hr2 : RowAt w (.slice yo ny yc) ny (flatP ys)) (hn2 : ys.length = ny) (hm2 : ny ≤ maxLen) (hb2 : I64 b2) (hx2 : ∀ x ∈ ys, I64 x.sz ∧ I64 x.wt ∧ I64 x.fr)
    (hr : RowAt w (.slice co n cc) n (flatK os)) (hn : os.length = n) (hI : ∀ x ∈ os, I64 x.b) (hq : n ≤ 268435456)
    (hr3 : RowAt w (.slice eo m ec) m (flatK ot)) (hn3 : ot.length = m) (hI3 : ∀ x ∈ ot, I64 x.b) (hq3 : m ≤ 268435456)
    (hr4 : RowAt w (.slice uo q uc) q (flatK ou)) (hn4 : ou.length = q) (hI4 : ∀ x ∈ ou, I64 x.a ∧ I64 x.b) (hq4 : q ≤ 268435456) :
    Calls Tryz.prog 7 #[.agg #[.int .i64 b1, .slice xo nx xc], .agg #[.int .i64 b2, .slice yo ny yc], .slice co n cc, .slice eo m ec, .slice uo q uc] w fun e w' => e = .returned (.bool true) ∧ Below w.heap.size w w' := by
  obtain ⟨W, hW⟩ : ∃ W, W = (w.alloc (bTab b1 (.slice xo nx xc))).alloc (bTab b2 (.slice yo ny yc)) := ⟨_, rfl⟩
  have hbW : Below w.heap.size w W := by rw [hW]; exact nx_trans (nx_alloc _ _) (nx_alloc _ _)
  have HW : Hid (W = (w.alloc (bTab b1 (.slice xo nx xc))).alloc (bTab b2 (.slice yo ny yc)) ∧ W.heap[w.heap.size]? = some (bTab b1 (.slice xo nx xc)) ∧ W.heap[w.heap.size + 1]? = some (bTab b2 (.slice yo ny yc)) ∧ Below w.heap.size w W) := by
    refine ⟨hW, ?_, ?_, hbW⟩
    · rw [hW]; exact (heap_alloc_lt _ _ (by simp)).trans (heap_alloc_at _ _ rfl)
    · rw [hW]; exact heap_alloc_at _ _ (by simp)
  have HO := hideIt (gOpened b1 xs xo nx xc b2 ys yo ny yc W (hr1.nx hbW) hn1 hm1 hb1 hx1 (hr2.nx hbW) hn2 hm2 hb2 hx2)
  have HR : Hid ((RowAt W (.slice co n cc) n (flatK os) ∧ os.length = n ∧ ∀ x ∈ os, I64 x.b) ∧ (RowAt W (.slice eo m ec) m (flatK ot) ∧ ot.length = m ∧ ∀ x ∈ ot, I64 x.b)) := ⟨⟨hr.nx hbW, hn, hI⟩, hr3.nx hbW, hn3, hI3⟩
  have HR4 : Hid (RowAt W (.slice uo q uc) q (flatK ou) ∧ ou.length = q ∧ ∀ x ∈ ou, I64 x.a ∧ I64 x.b) := ⟨hr4.nx hbW, hn4, hI4⟩
  clear hr1 hn1 hm1 hb1 hx1 hr2 hn2 hm2 hb2 hx2 hr hn hI hW hbW hr3 hn3 hI3 hr4 hn4 hI4
  go_enter Tryz.func7, Tryz.ntmps7
  go_upto_region 1 with fail
  rw [← HW.out.1]
  obtain ⟨a0, a1⟩ := gblk2 HW.out.2.1
  obtain ⟨d0, d1⟩ := gblk2 HW.out.2.2.1
  go_wp2_with fail
  refine HO.out.mono ?_
  rintro e w1 ⟨gg, gp, S0, X0, Fp0, A, B, ao, ac, bo, bc, rfl, hgame, hokA, hokB, hfr, hF, hb1⟩
  obtain ⟨h1, h2, h3⟩ := arr_fresh hgame hokA hfr hF hb1
  have HAR := hideIt (gArrived gg gp S0 X0 Fp0 A B ao ac bo bc W w1 os co n cc ot eo m ec hokA hokB h1 h2 h3 HR.out.1.1 HR.out.1.2.1 HR.out.1.2.2 HR.out.2.1 HR.out.2.2.1 HR.out.2.2.2 hq hq3)
  have HK : Hid (Okt A.1 A.2 ∧ Okt B.1 B.2) := ⟨hokA, hokB⟩
  clear hgame hokA hokB hfr hF hb1 a0 a1 d0 d1 h1 h2 h3
  go_wp2_with fail
  refine HAR.out.mono ?_
  rintro e w2 ⟨⟨T1, T2⟩, vt, tc, S, X, Fp, rfl, hgo, har, hcal, hpln, hpe⟩
  obtain ⟨nt, hnt⟩ : ∃ nt, T2.length = nt := ⟨_, rfl⟩
  obtain ⟨V, hV⟩ : ∃ V, V = w2.alloc (bTab T1 (.slice vt nt tc)) := ⟨_, rfl⟩
  obtain ⟨gz, hgz⟩ : ∃ gz, w2.heap.size = gz := ⟨_, rfl⟩
  have hbV : Below w2.heap.size w2 V := by rw [hV]; exact nx_alloc _ _
  have hex := hpln.none hpe
  have HV : Hid (V = w2.alloc (bTab T1 (.slice vt nt tc)) ∧ w2.heap.size = gz ∧ ArrI W V gg gp S X Fp A B ao ac bo bc (n + m + 410) ∧ Kst V gz (T1, T2) vt tc gg Fp A B ao ac bo bc ∧ Calm S ∧ S.plan = [] ∧ S.begun = false ∧ S.back = false ∧ (T1, T2) = (S.bud, S.pools) ∧ T2.length = nt ∧ Goal (T1, T2) vt tc A B ao ac bo bc ∧ Okt T1 T2) := by
    refine ⟨hV, hgz, har.below hbV, ?_, hcal, hpe, hex.1, hex.2.1, hex.2.2, hnt, hgo, hpln.goal⟩
    have k1 := Kst.new har.game (T1, T2) vt tc
    simp only [hnt] at k1
    rw [← hV, hgz] at k1
    exact k1
  simp only [hnt]
  clear hgo har hcal hpln hpe hbV hV hex hnt hgz
  go_upto_region 7 with fail
  rw [← HV.out.1, HV.out.2.1]
  have hfit := fits_way HV.out.2.2.1.run HV.out.2.2.1.pot (by omega)
  have HSH := hideIt (show_any gp S X Fp V HV.out.2.2.1.game.desk hfit.1)
  have HFT := hideIt hfit
  obtain ⟨x0, x1, x2, x3, x4⟩ := gblk5 HV.out.2.2.1.game.box
  clear hfit
  go_wp2_with fail
  refine HSH.out.mono ?_
  rintro e w3 ⟨v, rfl, hnew, hb3⟩
  obtain ⟨Z, hZ⟩ : ∃ Z, Z = w3.alloc (bSta S v) := ⟨_, rfl⟩
  obtain ⟨gs, hgs⟩ : ∃ gs, w3.heap.size = gs := ⟨_, rfl⟩
  obtain ⟨n2, hn2⟩ : ∃ n2, S.srv.length = n2 := ⟨_, rfl⟩
  have HZ : Hid (Z = w3.alloc (bSta S v) ∧ w3.heap.size = gs ∧ ArrI W Z gg gp S X Fp A B ao ac bo bc (n + m + 410) ∧ Kst Z gz (T1, T2) vt tc gg Fp A B ao ac bo bc ∧ Snap Z gs S v Fp ∧ S.srv.length = n2 ∧ gg ≠ gs ∧ (∀ x, (Value.slice ao A.2.length ac).ownBlock = some x → x ≠ gs) ∧ (∀ x, (Value.slice bo B.2.length bc).ownBlock = some x → x ≠ gs) ∧ W.heap.size ≤ gs) := by
    have hbZ : Below V.heap.size V Z := by rw [hZ]; exact nx_trans hb3 (nx_alloc _ _)
    have hs := snap_new hnew hb3 HV.out.2.2.1.game.desk.lt
    rw [← hZ, hgs] at hs
    have e1 := hb3.size
    have e2 := HV.out.2.2.1.bel.size
    exact ⟨hZ, hgs, HV.out.2.2.1.below hbZ, HV.out.2.2.2.1.below hbZ, hs, hn2, by have := HV.out.2.2.1.game.lt; omega, fun x hx => by have := (HV.out.2.2.1.game.la x hx).1; omega, fun x hx => by have := (HV.out.2.2.1.game.lb x hx).1; omega, by omega⟩
  have hn2' : n2 ≤ 1099511627776 := by rw [← hn2]; exact HFT.out.2.2.1
  clear hnew hb3 hZ hgs hn2 x0 x1 x2 x3 x4
  go_upto_region 8 with fail
  rw [← HZ.out.1, HZ.out.2.1]
  go_wp2_with fail
  go_loopw [15] (fun i wr => ∃ k : Nat, k ≤ n2 ∧ i = .int .i64 k ∧ Hid (∃ Fp, ArrI W wr gg gp (dropS S k) X Fp A B ao ac bo bc (n + m + 410) ∧ Kst wr gz (T1, T2) vt tc gg Fp A B ao ac bo bc ∧ Snap wr gs S v Fp)) (fun i _ => n2 - (intOf i).toNat)
  case atStart => exact ⟨0, Nat.zero_le _, rfl, Fp, HZ.out.2.2.1, HZ.out.2.2.2.1, HZ.out.2.2.2.2.1⟩
  case round =>
    obtain ⟨k, hk, rfl, HH⟩ := hrel
    obtain ⟨Fp, hfi⟩ := HH.out
    have HF := hideIt hfi
    clear hfi HH
    have hbx := HF.out.2.2.box
    have e1 : bSta S v = .cells #[.int .i64 S.bud, .slice v.po S.pools.length v.pc, .slice v.so n2 v.sc, .slice v.wo S.wts.length v.wc, .slice v.to S.plan.length v.tc, .bool S.begun, .bool S.back] 33 := by simp only [bSta, HZ.out.2.2.2.2.2.1]
    rw [e1] at hbx
    obtain ⟨s0, s1, s2, s3, s4, s5, s6⟩ := gblk7 hbx
    clear hbx e1
    by_cases hlt : k < n2
    · obtain ⟨x, hx⟩ : ∃ p, S.srv[k]? = some p := ⟨_, List.getElem?_eq_getElem (by rw [HZ.out.2.2.2.2.2.1]; exact hlt)⟩
      have hrow := HF.out.2.2.sta.s
      rw [HZ.out.2.2.2.2.2.1] at hrow
      obtain ⟨bl, off, hao, hbl, c0, c1, c2, c3⟩ := sv_at hrow hx
      have hnb : ¬ Fp bl := (HF.out.2.2.blk bl (.inr (.inl (by rw [hao]; rfl)))).2.1
      have hlti : (k : Int) < (n2 : Int) := by omega
      have HC : Hid (∀ u, Below wr.heap.size wr u → Calls Tryz.prog 20 #[.pointer (some ⟨gp, 0, none⟩), .int .i64 x.id] u fun e w' => e = .returned (.int .i64 0) ∧ Moved u w' gp (dropS S (k + 1)) X Fp) := by
        intro u hu
        have := pCrash gp x.id (dropS S k) X Fp u (HF.out.1.game.below hu).desk (ok_run HF.out.1.run (by have := HF.out.1.pot; omega))
        rw [crash_drop HV.out.2.2.1.run.good.fine.inv HV.out.2.2.2.2.1.1 hx] at this
        exact this
      rw [hao] at s2
      obtain ⟨x0, x1, x2, x3, x4⟩ := gblk5 HF.out.1.game.box
      have hgl : gg < wr.heap.size := HF.out.1.game.lt
      have hsl : gs < wr.heap.size := HF.out.2.2.lt
      have HNF : Hid (¬ Fp gg ∧ ¬ Fp gs ∧ ¬ Fp bl) := ⟨HF.out.1.game.dg, HF.out.2.2.dgs, hnb⟩
      obtain ⟨xi, hxi⟩ : ∃ xi, x.id = xi := ⟨_, rfl⟩
      rw [hxi] at c0 HC
      clear x1 x2 x3 x4 s0 s1 s3 s4 s5 s6 c1 c2 c3 hrow hx hnb hxi hao
      go_upto_region 11 with fail
      go_cut [16] (fun y wx => y = .int .i64 0 ∧ ∃ wy, Hid (Moved wr wy gp (dropS S (k + 1)) X Fp) ∧ wy = wx)
      case first =>
        go_region_held3 (fun w' => w'.cell? ⟨gg, 0, none⟩ = some (.pointer (some ⟨gp, 0, none⟩)) ∧ w'.cell? ⟨gs, 2, none⟩ = some (.slice (some ⟨bl, off, none⟩) n2 v.sc) ∧ w'.cell? ⟨bl, off + k * 4, none⟩ = some (.int .i64 xi)) (go_keep)
          ((go_at_call 20; refine (HC.out _ ((Below.refl _ _).drew)).mono ?_; rintro e w5 ⟨rfl, hm5⟩; have HM5 : Hid (Moved wr w5 gp (dropS S (k + 1)) X Fp) := Moved.after (Below.refl _ _).drew hm5; have r1 := (World.cell?_of_block (a := ⟨gg, 0, none⟩) (gmoved_block HM5.out hgl HNF.out.1)).trans x0; have r2 := (World.cell?_of_block (a := ⟨gs, 2, none⟩) (gmoved_block HM5.out hsl HNF.out.2.1)).trans s2; have r3 := (World.cell?_of_block (a := ⟨bl, off + k * 4, none⟩) (gmoved_block HM5.out hbl HNF.out.2.2)).trans c0; clear hm5))
        all_goals
          go_wp2_with fail
          go_meet
          exact ⟨rfl, _, HM5.out, rfl⟩
      case rest =>
        obtain ⟨rfl, wy, HMV, rfl⟩ := hcut
        obtain ⟨Fp1, hg1, hF1, hch1⟩ := HF.out.1.game.moved HMV.out
        have HN : Hid (∃ Fp, ArrI W wy gg gp (dropS S (k + 1)) X Fp A B ao ac bo bc (n + m + 410) ∧ Kst wy gz (T1, T2) vt tc gg Fp A B ao ac bo bc ∧ Snap wy gs S v Fp) :=
          ⟨Fp1, HF.out.1.chg hg1 hF1 hch1 (run_drop HV.out.2.2.1.run HV.out.2.2.2.2.1.1 (k + 1)) HF.out.1.pot, HF.out.2.1.chg hch1 HF.out.2.1.no hF1, HF.out.2.2.moved hch1 hF1⟩
        clear hg1 hF1 hch1 x0 s2 c0
        go_wp2_with fail
        go_roundw
        case rel => exact ⟨k + 1, by omega, by go_num, HN.out⟩
        case measure => simp [intOf]; omega
    · have hlti : ¬ (k : Int) < (n2 : Int) := by omega
      have hkn : k = n2 := by omega
      have hrw := goal_row HF.out.1.game HV.out.2.2.2.2.2.2.2.2.2.2.1
      simp only [HV.out.2.2.2.2.2.2.2.2.2.1] at hrw
      have HT := hideIt (text_any T1 T2 vt tc nt 0 wr hrw HV.out.2.2.2.2.2.2.2.2.2.1 HV.out.2.2.2.2.2.2.2.2.2.2.2 (by constructor <;> omega))
      have hzb := HF.out.2.1.box
      simp only [HV.out.2.2.2.2.2.2.2.2.2.1] at hzb
      obtain ⟨z0, z1⟩ := gblk2 hzb
      have HE : Hid (dropS S k = shS X.op (sta0 (T1, T2))) := by
        have e1 : (dropS S k).srv = [] := drop_end (by rw [HZ.out.2.2.2.2.2.1]; omega)
        have e2 := HV.out.2.2.2.2.1.1
        have e3 := HV.out.2.2.2.2.2.1
        have e4 := HV.out.2.2.2.2.2.2.1
        have e5 := HV.out.2.2.2.2.2.2.2.1
        have e6 := HV.out.2.2.2.2.2.2.2.2.1
        unfold dropS at e1 ⊢
        simp only at e1
        rw [e1, e2, e3, e4, e5]
        show _ = (⟨T1, T2, [], [], [], false, false⟩ : Sta)
        rw [show T1 = S.bud from congrArg Prod.fst e6, show T2 = S.pools from congrArg Prod.snd e6]
      clear hrw hzb hkn
      go_wp2_with fail
      refine HT.out.mono ?_
      rintro e w5 ⟨⟨s, hs, rfl⟩, hb5⟩
      obtain ⟨hans, hsz⟩ := ans_text (stOf 0) (lastN T2) HV.out.2.2.2.2.2.2.2.2.2.2.2 (fun h => last_mem h) s hs
      have HN := hideIt (new_any s w5 (Nat.le_trans hsz (by unfold maxLen; omega)))
      rw [hans] at HN
      have HB5 := hideIt hb5
      clear hs hans hsz hb5 z0 z1 s0 s1 s2 s3 s4 s5 s6
      go_wp2_with fail
      refine HN.out.mono ?_
      rintro e w6 hnew
      rcases hnew with ⟨h, _⟩ | ⟨_, hp, Fq, rfl, hd, hFq, hb6⟩
      · exact absurd rfl h
      · have HD : Hid (DeskAt w6 hp (sta0 (T1, T2)) ⟨0, 0, []⟩ Fq ∧ (∀ y, Fq y → w5.heap.size ≤ y) ∧ Below w5.heap.size w5 w6) := ⟨hd, hFq, hb6⟩
        have hb56 : Below wr.heap.size wr w6 := nx_trans HB5.out hb6
        have H6 : Hid (ArrI W w6 gg gp (dropS S k) X Fp A B ao ac bo bc (n + m + 410) ∧ Snap w6 gs S v Fp ∧ Below wr.heap.size wr w6) := ⟨HF.out.1.below hb56, HF.out.2.2.below hb56, hb56⟩
        obtain ⟨x0, x1, x2, x3, x4⟩ := gblk5 H6.out.1.game.box
        clear hd hFq hb6 hb56
        go_upto_region 17 with fail
        go_cut [20] (fun y wx => ∃ gh wy, y = .pointer (some ⟨gh, 0, none⟩) ∧ Hid (w6.heap.size ≤ gh ∧ Below w6.heap.size w6 wy ∧ wy.heap[gh]? = some (bGame hp A.1 (.slice ao A.2.length ac) B.1 (.slice bo B.2.length bc))) ∧ wy = wx)
        case first =>
          go_region
          all_goals
            go_wp2_with fail
            go_meet
            exact ⟨_, _, rfl, ⟨Nat.le_refl _, by first | exact (nx_alloc _ _).drew | exact nx_alloc _ _, by first | exact heap_alloc_at w6 _ rfl | exact heap_alloc_at _ _ rfl⟩, rfl⟩
        case rest =>
          obtain ⟨gh, wy, rfl, HGH, rfl⟩ := hcut
          have HI : Hid (∃ S1 X1 Fp T Y Fq, TwoI W wy gg gp S1 X1 Fp gh hp T Y Fq A B ao ac bo bc gs S v X.op (n + m + 410 + 0) 0 ∧ T.srv = []) := by
            have g1 := H6.out.1
            have hby := HGH.out.2.1
            have e1 := HB5.out.size
            have e2 := HD.out.2.2.size
            have e3 := HF.out.1.bel.size
            have hgh : GameAt wy gh hp (sta0 (T1, T2)) ⟨0, 0, []⟩ Fq A B ao ac bo bc := by
              refine ⟨HGH.out.2.2, HD.out.1.keep (G := fun _ => False) (Chg.of_below hby) (fun _ _ h => h), g1.game.a.nx hby, g1.game.b.nx hby, fun g hg => ?_, fun g hg => ?_, fun hf => ?_⟩
              · refine ⟨Nat.lt_of_lt_of_le (g1.game.la g hg).1 hby.size, fun hf => ?_⟩
                have h1 := HD.out.2.1 g hf
                have h2 := (HF.out.1.game.la g hg).1
                omega
              · refine ⟨Nat.lt_of_lt_of_le (g1.game.lb g hg).1 hby.size, fun hf => ?_⟩
                have h1 := HD.out.2.1 g hf
                have h2 := (HF.out.1.game.lb g hg).1
                omega
              · have h1 := HD.out.1.lt gh hf
                have h2 := HGH.out.1
                omega
            have hlow : ∀ y, Fp y → y < wr.heap.size := HF.out.1.game.desk.lt
            refine ⟨dropS S k, X, Fp, sta0 (T1, T2), ⟨0, 0, []⟩, Fq, ⟨g1.below hby, ⟨hgh, run_new HV.out.2.2.2.2.2.2.2.2.2.2.2, by unfold Lw.pot; simp, fun y hy => by have := HD.out.2.1 y hy; omega, nx_trans g1.bel hby⟩, fun y h1 h2 => ?_, fun hf => ?_, fun hf => ?_, ?_, HZ.out.2.2.2.2.2.2.1, fun e => ?_, HZ.out.2.2.2.2.2.2.2.1, HZ.out.2.2.2.2.2.2.2.2.1, HZ.out.2.2.2.2.2.2.2.2.2, HE.out, by simp⟩, rfl⟩
            · have h3 := hlow y h1
              have h4 := HD.out.2.1 y h2
              omega
            · have h3 := hlow gh hf
              have h4 := HGH.out.1
              omega
            · have h3 := HD.out.2.1 gg hf
              have h4 := HF.out.1.game.lt
              omega
            · have hsn := H6.out.2.1.below hby
              refine ⟨hsn.box, hsn.sta, fun g hg => ⟨(hsn.blk g hg).1, fun hf => ?_, (hsn.blk g hg).2.2⟩, fun hf => ?_⟩
              · rcases hf with hf | hf
                · exact (hsn.blk g hg).2.1 hf
                · have h3 := HD.out.2.1 g hf
                  have h4 := (HF.out.2.2.blk g hg).1
                  omega
              · rcases hf with hf | hf
                · exact hsn.dgs hf
                · have h3 := HD.out.2.1 gs hf
                  have h4 := HF.out.2.2.lt
                  omega
            · have h3 := HGH.out.1
              have h4 := HF.out.2.2.lt
              omega
          have HDP : Hid (0 ≤ X.op ∧ X.op ≤ 2 + (n + m + 410 : Nat)) := by
            have h1 := HF.out.1.run.good.fine.inv.op0
            have h2 := HF.out.1.pot
            unfold Lw.pot at h2
            simp only at h2
            exact ⟨h1, by omega⟩
          obtain ⟨d, hd⟩ : ∃ d, X.op = d := ⟨_, rfl⟩
          rw [hd] at HI HDP
          have HG0 : Hid (Below w.heap.size w W) := HW.out.2.2.2
          clear x0 x1 x2 x3 x4 hd HGH HD H6 HB5 HE HF HN HT HSH HFT HAR HO hlt hlti hk
          go_wp2_with fail
          go_loopw [21, 22] (fun mo i wr => ∃ (mv : Int) (k : Nat), mo = .int .i64 mv ∧ k ≤ q ∧ i = .int .i64 k ∧ Hid (∃ S1 X1 Fp T Y Fq, TwoI W wr gg gp S1 X1 Fp gh hp T Y Fq A B ao ac bo bc gs S v d (n + m + 410 + k) k ∧ MoreI mv d T)) (fun mo i _ => q - (intOf i).toNat)
          case atStart =>
            obtain ⟨S1, X1, Fp, T, Y, Fq, h1, h2⟩ := HI.out
            exact ⟨-1, 0, rfl, Nat.zero_le _, rfl, S1, X1, Fp, T, Y, Fq, h1, .inr ⟨rfl, h2⟩⟩
          case round =>
            clear HI
            obtain ⟨mv, k, rfl, hk, rfl, HH⟩ := hrel
            obtain ⟨S1, X1, Fp, T, Y, Fq, htw, hmv⟩ := HH.out
            have HT := hideIt htw
            have HMV := hideIt hmv
            clear htw hmv HH
            by_cases hlt : k < q
            · obtain ⟨⟨kd, a, p⟩, hpp⟩ : ∃ p, ou[k]? = some p := ⟨_, List.getElem?_eq_getElem (by rw [HR4.out.2.1]; exact hlt)⟩
              obtain ⟨bl, off, hao, hbl, c0, c1, c2⟩ := opk_at (HR4.out.1.nx HT.out.one.bel) hpp
              subst hao
              simp only at c0 c1 c2
              have hlti : (k : Int) < (q : Int) := by omega
              have HP : Hid (I64 a ∧ I64 p) := HR4.out.2.2 _ (List.mem_of_getElem? hpp)
              obtain ⟨V1, hV1⟩ : ∃ V1, V1 = wr.alloc (bOpk kd a p) := ⟨_, rfl⟩
              obtain ⟨g1, hg1⟩ : ∃ g1, wr.heap.size = g1 := ⟨_, rfl⟩
              have K1 : Hid (V1 = wr.alloc (bOpk kd a p) ∧ wr.heap.size = g1 ∧ V1.heap[g1]? = some (bOpk kd a p) ∧ Below wr.heap.size wr V1) := ⟨hV1, hg1, by rw [hV1]; exact heap_alloc_at _ _ hg1.symm, by rw [hV1]; exact nx_alloc _ _⟩
              clear hpp hV1 hg1
              go_upto_region 23 with fail
              rw [← K1.out.1, K1.out.2.1]
              clear c0 c1 c2
              obtain ⟨b0, b1, b2⟩ := gblk3 K1.out.2.2.1
              by_cases hk5 : 4 < kd
              · have HN : Hid (∃ S1 X1 Fp T Y Fq, TwoI W V1 gg gp S1 X1 Fp gh hp T Y Fq A B ao ac bo bc gs S v d (n + m + 410 + (k + 1)) (k + 1) ∧ MoreI mv d T) := ⟨S1, X1, Fp, T, Y, Fq, (HT.out.below K1.out.2.2.2).more, HMV.out⟩
                go_wp2_with fail
                go_roundw
                case rel => exact ⟨mv, k + 1, rfl, by omega, by go_num, HN.out⟩
                case measure => simp [intOf]; omega
              · by_cases hk0 : kd < 1
                · have HN : Hid (∃ S1 X1 Fp T Y Fq, TwoI W V1 gg gp S1 X1 Fp gh hp T Y Fq A B ao ac bo bc gs S v d (n + m + 410 + (k + 1)) (k + 1) ∧ MoreI mv d T) := ⟨S1, X1, Fp, T, Y, Fq, (HT.out.below K1.out.2.2.2).more, HMV.out⟩
                  go_wp2_with fail
                  go_roundw
                  case rel => exact ⟨mv, k + 1, rfl, by omega, by go_num, HN.out⟩
                  case measure => simp [intOf]; omega
                · have HIN : Hid (1 ≤ kd ∧ kd ≤ 4) := ⟨by omega, by omega⟩
                  obtain ⟨V2, hV2⟩ : ∃ V2, V2 = V1.alloc (bOpk kd a p) := ⟨_, rfl⟩
                  obtain ⟨g2, hg2⟩ : ∃ g2, V1.heap.size = g2 := ⟨_, rfl⟩
                  have K2 : Hid (V2 = V1.alloc (bOpk kd a p) ∧ V1.heap.size = g2 ∧ V2.heap[g2]? = some (bOpk kd a p) ∧ V2.heap[g1]? = some (bOpk kd a p) ∧ Below wr.heap.size wr V2 ∧ g1 ≠ g2 ∧ wr.heap.size ≤ g1 ∧ wr.heap.size ≤ g2) := by
                    have h1 := (Array.getElem?_eq_some_iff.1 K1.out.2.2.1).1
                    have h2 := K1.out.2.1
                    have h3 := K1.out.2.2.2.size
                    exact ⟨hV2, hg2, by rw [hV2]; exact heap_alloc_at _ _ hg2.symm, by rw [hV2]; exact (heap_alloc_lt _ _ h1).trans K1.out.2.2.1, by rw [hV2]; exact nx_trans K1.out.2.2.2 (nx_alloc _ _), by omega, by omega, by omega⟩
                  clear hV2 hg2
                  go_upto_region 25 with fail
                  rw [← K2.out.1, K2.out.2.1]
                  clear b0 b1 b2 hk5 hk0
                  by_cases h4 : kd = 4
                  · subst h4
                    have HPK := hideIt (pick_any a 200 V2 HP.out.1 (by omega) (by omega))
                    obtain ⟨b0, b1, b2, bz⟩ := blk3d K2.out.2.2.2.1
                    obtain ⟨e0, e1, e2, ez⟩ := blk3d K2.out.2.2.1
                    go_wp2_with fail
                    refine HPK.out.mono ?_
                    rintro e w5 ⟨⟨r, hr0, hr2, rfl⟩, h5⟩
                    obtain rfl := h5.symm
                    obtain ⟨Q1, hQ1⟩ : ∃ Q1, Q1 = V2.setCell ⟨g1, 1, none⟩ (.int .i64 r) := ⟨_, rfl⟩
                    obtain ⟨Q, hQ⟩ : ∃ Q, Q = Q1.setCell ⟨g2, 1, none⟩ (.int .i64 r) := ⟨_, rfl⟩
                    have KQ1 : Hid (Q1 = V2.setCell ⟨g1, 1, none⟩ (.int .i64 r) ∧ Q1.heap[g1]? = some (bOpk 4 r p) ∧ Q1.heap[g2]? = some (bOpk 4 a p) ∧ Below wr.heap.size wr Q1) := by
                      have c : Chg (fun y => y = g1) V2 Q1 := by rw [hQ1]; exact Chg.set (F := fun y => y = g1) V2 g1 1 _ rfl
                      exact ⟨hQ1, by rw [hQ1]; exact set_heap _ _ _ _ _ _ K2.out.2.2.2.1, (c.block g2 (Array.getElem?_eq_some_iff.1 K2.out.2.2.1).1 (fun e => K2.out.2.2.2.2.2.1 e.symm)).trans K2.out.2.2.1, by rw [hQ1]; exact K2.out.2.2.2.2.1.setCell K2.out.2.2.2.2.2.2.1 _⟩
                    have KQ : Hid (Q = Q1.setCell ⟨g2, 1, none⟩ (.int .i64 r) ∧ Q.heap[g1]? = some (bOpk 4 r p) ∧ Q.heap[g2]? = some (bOpk 4 r p) ∧ Below wr.heap.size wr Q) := by
                      have c : Chg (fun y => y = g2) Q1 Q := by rw [hQ]; exact Chg.set (F := fun y => y = g2) Q1 g2 1 _ rfl
                      exact ⟨hQ, (c.block g1 (Array.getElem?_eq_some_iff.1 KQ1.out.2.1).1 (fun e => K2.out.2.2.2.2.2.1 e)).trans KQ1.out.2.1, by rw [hQ]; exact set_heap _ _ _ _ _ _ KQ1.out.2.2.1, by rw [hQ]; exact KQ1.out.2.2.2.setCell K2.out.2.2.2.2.2.2.2 _⟩
                    clear hQ1 hQ HPK
                    go_upto_region 27 with fail
                    rw [← KQ1.out.1]
                    clear b0 b1 b2 bz e0 e1 e2 ez
                    obtain ⟨b0, b1, b2, bz⟩ := blk3d KQ1.out.2.1
                    obtain ⟨e0, e1, e2, ez⟩ := blk3d KQ1.out.2.2.1
                    go_upto_region 28 with fail
                    rw [← KQ.out.1]
                    clear b0 b1 b2 bz e0 e1 e2 ez
                    obtain ⟨b0, b1, b2, bz⟩ := blk3d KQ.out.2.1
                    obtain ⟨e0, e1, e2, ez⟩ := blk3d KQ.out.2.2.1
                    by_cases hmd : mv = d
                    · have hmd2 := hmd.symm
                      subst hmd2
                      clear hmd
                      have hd0 := HDP.out.1
                      have hd1 := HDP.out.2
                      have hmn : ¬ d < 0 := by omega
                      by_cases hr1 : 0 < r
                      · by_cases hdp : 0 < d
                        · obtain ⟨U, hU⟩ : ∃ U, U = Q.setCell ⟨g2, 1, none⟩ (.int .i64 (r + d)) := ⟨_, rfl⟩
                          have HUB : Hid (Below wr.heap.size wr U ∧ U.heap[g1]? = some (bOpk 4 r p) ∧ U.heap[g2]? = some (bOpk 4 (r + d) p)) := by
                            have c : Chg (fun y => y = g2) Q U := by rw [hU]; exact Chg.set (F := fun y => y = g2) Q g2 1 _ rfl
                            exact ⟨by rw [hU]; exact KQ.out.2.2.2.setCell K2.out.2.2.2.2.2.2.2 _, (c.block g1 (Array.getElem?_eq_some_iff.1 KQ.out.2.1).1 (fun e => K2.out.2.2.2.2.2.1 e)).trans KQ.out.2.1, by rw [hU]; exact set_heap _ _ _ _ _ _ KQ.out.2.2.1⟩
                          have KU := hideIt hU
                          have HSM : Hid (AimA 4 r (r + d) d) := .inr ⟨rfl, .inr (by omega)⟩
                          have hwr : wrap64 (r + d) = r + d := IntWalk.wrap64_in _ (by omega)
                          clear hU hd1
                          go_upto_region 31 with fail
                          rw [← KU.out]
                          clear b0 b1 b2 bz e0 e1 e2 ez hwr hd0
                          as_aux_lemma =>
                            have HU := hideIt (HT.out.below HUB.out.1)
                            obtain ⟨b0, b1, b2⟩ := gblk3 HUB.out.2.1
                            obtain ⟨e0, e1, e2⟩ := gblk3 HUB.out.2.2
                            obtain ⟨gl, hpl1⟩ := HU.out.one.run.pln
                            have HPL := hideIt (gplayA gg gp S1 X1 Fp A B ao ac bo bc U 4 (r + d) p gl HU.out.one.game HU.out.one.run.good hpl1 (by have := HU.out.one.run.plan; omega) (by have := HU.out.one.pot; omega) HK.out.1 HK.out.2 HU.out.one.run.hps HP.out.2)
                            clear hpl1
                            go_wp2_with fail
                            refine HPL.out.mono ?_
                            rintro e w7 ⟨S2, X2, nn, er, ⟨rfl, Fp2, hga, hFa, hca⟩, hst1⟩
                            obtain ⟨hr1, hp1, _⟩ := step_run HK.out.1 HK.out.2 HU.out.one.run hst1
                            have hp1' : Lw.pot (S2, X2.op) ≤ 2 + ((n + m + 410 + k + 1 : Nat) : Int) := by have := HU.out.one.pot; omega
                            have H7 : Hid (GameAt w7 gg gp S2 X2 Fp2 A B ao ac bo bc ∧ (∀ y, Fp2 y → Fp y ∨ U.heap.size ≤ y) ∧ Chg Fp U w7 ∧ Run1 S2 X2 ∧ Lw.pot (S2, X2.op) ≤ 2 + ((n + m + 410 + k + 1 : Nat) : Int) ∧ StepR A B 4 (r + d) p S1 X1 S2 X2 nn er) := ⟨hga, hFa, hca, hr1, hp1', hst1⟩
                            have q2 := (HU.out.both (w2 := w7) hga hFa hca hr1 hp1').1.2
                            obtain ⟨gl2, hpl2⟩ := q2.run.pln
                            have HPL2 := hideIt (gplayA gh hp T Y Fq A B ao ac bo bc w7 4 r p gl2 q2.game q2.run.good hpl2 (by have := q2.run.plan; omega) (by have := q2.pot; omega) HK.out.1 HK.out.2 q2.run.hps HP.out.2)
                            have hb7 : w7.heap[g1]? = some (bOpk 4 r p) := (hca.block g1 (Array.getElem?_eq_some_iff.1 HUB.out.2.1).1 (fun hf => by have h1 := HT.out.one.game.desk.lt g1 hf; have h2 := K1.out.2.1; omega)).trans HUB.out.2.1
                            clear hga hFa hca hr1 hp1 hp1' hst1 q2 hpl2 b0 b1 b2 e0 e1 e2 HPL
                            obtain ⟨b0, b1, b2⟩ := gblk3 hb7
                            clear hb7
                            go_wp2_with fail
                            refine HPL2.out.mono ?_
                            rintro e w8 ⟨T3, Y2, mm, f, ⟨rfl, Fq2, hgb, hFb, hcb⟩, hst2⟩
                            obtain ⟨hr2, hp2, _⟩ := step_run HK.out.1 HK.out.2 HU.out.two.run hst2
                            obtain ⟨z1, z2, z3, z4⟩ := step_sh HU.out.two.run.good HU.out.one.run.good HU.out.sim HU.out.op HIN.out HSM.out H7.out.2.2.2.2.2 hst2
                            have H8 : Hid (TwoI W w8 gg gp S2 X2 Fp2 gh hp T3 Y2 Fq2 A B ao ac bo bc gs S v d (n + m + 410 + (k + 1)) (k + 1)) := (HU.out.both (w2 := w8) H7.out.1 H7.out.2.1 H7.out.2.2.1 H7.out.2.2.2.1 H7.out.2.2.2.2.1).2 hgb hFb hcb hr2 (by have := HU.out.two.pot; omega) z1 z2
                            have hid := step_id HU.out.one.run.good HIN.out H7.out.2.2.2.2.2
                            have hub : X2.op ≤ 2 + ((n + m + 410 + k + 1 : Nat) : Int) := by
                              have h1 := H7.out.2.2.2.2.1
                              unfold Lw.pot at h1
                              simp only at h1
                              omega
                            have HS2 := hideIt hst2
                            subst z3
                            clear hgb hFb hcb hr2 hp2 z1 z2 b0 b1 b2 HPL2 hst2
                            rcases z4 with ⟨rfl, rfl⟩ | ⟨hm1, rfl⟩
                            · have HN : Hid (∃ S1 X1 Fp T Y Fq, TwoI W w8 gg gp S1 X1 Fp gh hp T Y Fq A B ao ac bo bc gs S v d (n + m + 410 + (k + 1)) (k + 1) ∧ MoreI d d T) := ⟨S2, X2, Fp2, T3, Y2, Fq2, H8.out, .inl rfl⟩
                              clear hid hub
                              go_wp2_with fail
                              go_roundw
                              case rel => exact ⟨d, k + 1, rfl, by omega, by go_num, HN.out⟩
                              case measure => simp [intOf]; omega
                            · have hd0 := HDP.out.1
                              have hmm : ¬ mm = 0 := by omega
                              have hmp : 0 < mm := by omega
                              have hnn : ¬ mm + d = 0 := by omega
                              have hlt2 : ¬ mm + d < mm := by omega
                              have hq1 : (mm + d == 0) = false := beq_eq_false_iff_ne.2 hnn
                              have hq2 : (mm == 0) = false := beq_eq_false_iff_ne.2 hmm
                              have hmb : mm + d ≤ 1000000000000 := by have := HDP.out.2; omega
                              have hv1 : wrap64 (mm + d) = mm + d := IntWalk.wrap64_in _ (by omega)
                              have hv2 : wrap64 d = d := IntWalk.wrap64_in _ (by omega)
                              have hv3 : wrap64 (mm + d - mm) = d := by rw [IntWalk.wrap64_in _ (by omega)]; omega
                              have hw1 : IntKind.i64.wrap (mm + d) = mm + d := IntWalk.i64_in _ (by omega)
                              have hw2 : IntKind.i64.wrap d = d := IntWalk.i64_in _ (by omega)
                              have hw3 : IntKind.i64.wrap (mm + d - mm) = d := by rw [IntWalk.i64_in _ (by omega)]; omega
                              clear hid hub
                              have hmd : ¬ d < 0 := by omega
                              have HN : Hid (∃ S1 X1 Fp T Y Fq, TwoI W w8 gg gp S1 X1 Fp gh hp T Y Fq A B ao ac bo bc gs S v d (n + m + 410 + (k + 1)) (k + 1) ∧ MoreI d d T) := ⟨S2, X2, Fp2, T3, Y2, Fq2, H8.out, .inl rfl⟩
                              clear hmb hm1
                              go_wp2_with fail
                              go_roundw
                              case rel => exact ⟨d, k + 1, rfl, by omega, by go_num, HN.out⟩
                              case measure => simp [intOf]; omega
                        · have HSM : Hid (AimA 4 r r d) := .inr ⟨rfl, .inr (by omega)⟩
                          obtain ⟨U, hU⟩ : ∃ U, U = Q := ⟨_, rfl⟩
                          have HUB : Hid (Below wr.heap.size wr U ∧ U.heap[g1]? = some (bOpk 4 r p) ∧ U.heap[g2]? = some (bOpk 4 r p)) := by rw [hU]; exact ⟨KQ.out.2.2.2, KQ.out.2.1, KQ.out.2.2.1⟩
                          have KU := hideIt hU
                          clear hU hd1
                          go_upto_region 31 with fail
                          rw [← KU.out]
                          clear b0 b1 b2 bz e0 e1 e2 ez hd0
                          as_aux_lemma =>
                            have HU := hideIt (HT.out.below HUB.out.1)
                            obtain ⟨b0, b1, b2⟩ := gblk3 HUB.out.2.1
                            obtain ⟨e0, e1, e2⟩ := gblk3 HUB.out.2.2
                            obtain ⟨gl, hpl1⟩ := HU.out.one.run.pln
                            have HPL := hideIt (gplayA gg gp S1 X1 Fp A B ao ac bo bc U 4 r p gl HU.out.one.game HU.out.one.run.good hpl1 (by have := HU.out.one.run.plan; omega) (by have := HU.out.one.pot; omega) HK.out.1 HK.out.2 HU.out.one.run.hps HP.out.2)
                            clear hpl1
                            go_wp2_with fail
                            refine HPL.out.mono ?_
                            rintro e w7 ⟨S2, X2, nn, er, ⟨rfl, Fp2, hga, hFa, hca⟩, hst1⟩
                            obtain ⟨hr1, hp1, _⟩ := step_run HK.out.1 HK.out.2 HU.out.one.run hst1
                            have hp1' : Lw.pot (S2, X2.op) ≤ 2 + ((n + m + 410 + k + 1 : Nat) : Int) := by have := HU.out.one.pot; omega
                            have H7 : Hid (GameAt w7 gg gp S2 X2 Fp2 A B ao ac bo bc ∧ (∀ y, Fp2 y → Fp y ∨ U.heap.size ≤ y) ∧ Chg Fp U w7 ∧ Run1 S2 X2 ∧ Lw.pot (S2, X2.op) ≤ 2 + ((n + m + 410 + k + 1 : Nat) : Int) ∧ StepR A B 4 r p S1 X1 S2 X2 nn er) := ⟨hga, hFa, hca, hr1, hp1', hst1⟩
                            have q2 := (HU.out.both (w2 := w7) hga hFa hca hr1 hp1').1.2
                            obtain ⟨gl2, hpl2⟩ := q2.run.pln
                            have HPL2 := hideIt (gplayA gh hp T Y Fq A B ao ac bo bc w7 4 r p gl2 q2.game q2.run.good hpl2 (by have := q2.run.plan; omega) (by have := q2.pot; omega) HK.out.1 HK.out.2 q2.run.hps HP.out.2)
                            have hb7 : w7.heap[g1]? = some (bOpk 4 r p) := (hca.block g1 (Array.getElem?_eq_some_iff.1 HUB.out.2.1).1 (fun hf => by have h1 := HT.out.one.game.desk.lt g1 hf; have h2 := K1.out.2.1; omega)).trans HUB.out.2.1
                            clear hga hFa hca hr1 hp1 hp1' hst1 q2 hpl2 b0 b1 b2 e0 e1 e2 HPL
                            obtain ⟨b0, b1, b2⟩ := gblk3 hb7
                            clear hb7
                            go_wp2_with fail
                            refine HPL2.out.mono ?_
                            rintro e w8 ⟨T3, Y2, mm, f, ⟨rfl, Fq2, hgb, hFb, hcb⟩, hst2⟩
                            obtain ⟨hr2, hp2, _⟩ := step_run HK.out.1 HK.out.2 HU.out.two.run hst2
                            obtain ⟨z1, z2, z3, z4⟩ := step_sh HU.out.two.run.good HU.out.one.run.good HU.out.sim HU.out.op HIN.out HSM.out H7.out.2.2.2.2.2 hst2
                            have H8 : Hid (TwoI W w8 gg gp S2 X2 Fp2 gh hp T3 Y2 Fq2 A B ao ac bo bc gs S v d (n + m + 410 + (k + 1)) (k + 1)) := (HU.out.both (w2 := w8) H7.out.1 H7.out.2.1 H7.out.2.2.1 H7.out.2.2.2.1 H7.out.2.2.2.2.1).2 hgb hFb hcb hr2 (by have := HU.out.two.pot; omega) z1 z2
                            have hid := step_id HU.out.one.run.good HIN.out H7.out.2.2.2.2.2
                            have hub : X2.op ≤ 2 + ((n + m + 410 + k + 1 : Nat) : Int) := by
                              have h1 := H7.out.2.2.2.2.1
                              unfold Lw.pot at h1
                              simp only at h1
                              omega
                            have HS2 := hideIt hst2
                            subst z3
                            clear hgb hFb hcb hr2 hp2 z1 z2 b0 b1 b2 HPL2 hst2
                            rcases z4 with ⟨rfl, rfl⟩ | ⟨hm1, rfl⟩
                            · have HN : Hid (∃ S1 X1 Fp T Y Fq, TwoI W w8 gg gp S1 X1 Fp gh hp T Y Fq A B ao ac bo bc gs S v d (n + m + 410 + (k + 1)) (k + 1) ∧ MoreI d d T) := ⟨S2, X2, Fp2, T3, Y2, Fq2, H8.out, .inl rfl⟩
                              clear hid hub
                              go_wp2_with fail
                              go_roundw
                              case rel => exact ⟨d, k + 1, rfl, by omega, by go_num, HN.out⟩
                              case measure => simp [intOf]; omega
                            · have hd0 := HDP.out.1
                              have hmm : ¬ mm = 0 := by omega
                              have hmp : 0 < mm := by omega
                              have hnn : ¬ mm + d = 0 := by omega
                              have hlt2 : ¬ mm + d < mm := by omega
                              have hq1 : (mm + d == 0) = false := beq_eq_false_iff_ne.2 hnn
                              have hq2 : (mm == 0) = false := beq_eq_false_iff_ne.2 hmm
                              have hmb : mm + d ≤ 1000000000000 := by have := HDP.out.2; omega
                              have hv1 : wrap64 (mm + d) = mm + d := IntWalk.wrap64_in _ (by omega)
                              have hv2 : wrap64 d = d := IntWalk.wrap64_in _ (by omega)
                              have hv3 : wrap64 (mm + d - mm) = d := by rw [IntWalk.wrap64_in _ (by omega)]; omega
                              have hw1 : IntKind.i64.wrap (mm + d) = mm + d := IntWalk.i64_in _ (by omega)
                              have hw2 : IntKind.i64.wrap d = d := IntWalk.i64_in _ (by omega)
                              have hw3 : IntKind.i64.wrap (mm + d - mm) = d := by rw [IntWalk.i64_in _ (by omega)]; omega
                              clear hid hub
                              have hmd : ¬ d < 0 := by omega
                              have HN : Hid (∃ S1 X1 Fp T Y Fq, TwoI W w8 gg gp S1 X1 Fp gh hp T Y Fq A B ao ac bo bc gs S v d (n + m + 410 + (k + 1)) (k + 1) ∧ MoreI d d T) := ⟨S2, X2, Fp2, T3, Y2, Fq2, H8.out, .inl rfl⟩
                              clear hmb hm1
                              go_wp2_with fail
                              go_roundw
                              case rel => exact ⟨d, k + 1, rfl, by omega, by go_num, HN.out⟩
                              case measure => simp [intOf]; omega
                      · have hr00 : r = 0 := by omega
                        subst hr00
                        have HSM : Hid (AimA 4 0 0 d) := .inr ⟨rfl, .inl ⟨rfl, rfl⟩⟩
                        obtain ⟨U, hU⟩ : ∃ U, U = Q := ⟨_, rfl⟩
                        have HUB : Hid (Below wr.heap.size wr U ∧ U.heap[g1]? = some (bOpk 4 0 p) ∧ U.heap[g2]? = some (bOpk 4 0 p)) := by rw [hU]; exact ⟨KQ.out.2.2.2, KQ.out.2.1, KQ.out.2.2.1⟩
                        have KU := hideIt hU
                        clear hU hd1 hr1
                        go_upto_region 31 with fail
                        rw [← KU.out]
                        clear b0 b1 b2 bz e0 e1 e2 ez hd0
                        as_aux_lemma =>
                          have HU := hideIt (HT.out.below HUB.out.1)
                          obtain ⟨b0, b1, b2⟩ := gblk3 HUB.out.2.1
                          obtain ⟨e0, e1, e2⟩ := gblk3 HUB.out.2.2
                          obtain ⟨gl, hpl1⟩ := HU.out.one.run.pln
                          have HPL := hideIt (gplayA gg gp S1 X1 Fp A B ao ac bo bc U 4 0 p gl HU.out.one.game HU.out.one.run.good hpl1 (by have := HU.out.one.run.plan; omega) (by have := HU.out.one.pot; omega) HK.out.1 HK.out.2 HU.out.one.run.hps HP.out.2)
                          clear hpl1
                          go_wp2_with fail
                          refine HPL.out.mono ?_
                          rintro e w7 ⟨S2, X2, nn, er, ⟨rfl, Fp2, hga, hFa, hca⟩, hst1⟩
                          obtain ⟨hr1, hp1, _⟩ := step_run HK.out.1 HK.out.2 HU.out.one.run hst1
                          have hp1' : Lw.pot (S2, X2.op) ≤ 2 + ((n + m + 410 + k + 1 : Nat) : Int) := by have := HU.out.one.pot; omega
                          have H7 : Hid (GameAt w7 gg gp S2 X2 Fp2 A B ao ac bo bc ∧ (∀ y, Fp2 y → Fp y ∨ U.heap.size ≤ y) ∧ Chg Fp U w7 ∧ Run1 S2 X2 ∧ Lw.pot (S2, X2.op) ≤ 2 + ((n + m + 410 + k + 1 : Nat) : Int) ∧ StepR A B 4 0 p S1 X1 S2 X2 nn er) := ⟨hga, hFa, hca, hr1, hp1', hst1⟩
                          have q2 := (HU.out.both (w2 := w7) hga hFa hca hr1 hp1').1.2
                          obtain ⟨gl2, hpl2⟩ := q2.run.pln
                          have HPL2 := hideIt (gplayA gh hp T Y Fq A B ao ac bo bc w7 4 0 p gl2 q2.game q2.run.good hpl2 (by have := q2.run.plan; omega) (by have := q2.pot; omega) HK.out.1 HK.out.2 q2.run.hps HP.out.2)
                          have hb7 : w7.heap[g1]? = some (bOpk 4 0 p) := (hca.block g1 (Array.getElem?_eq_some_iff.1 HUB.out.2.1).1 (fun hf => by have h1 := HT.out.one.game.desk.lt g1 hf; have h2 := K1.out.2.1; omega)).trans HUB.out.2.1
                          clear hga hFa hca hr1 hp1 hp1' hst1 q2 hpl2 b0 b1 b2 e0 e1 e2 HPL
                          obtain ⟨b0, b1, b2⟩ := gblk3 hb7
                          clear hb7
                          go_wp2_with fail
                          refine HPL2.out.mono ?_
                          rintro e w8 ⟨T3, Y2, mm, f, ⟨rfl, Fq2, hgb, hFb, hcb⟩, hst2⟩
                          obtain ⟨hr2, hp2, _⟩ := step_run HK.out.1 HK.out.2 HU.out.two.run hst2
                          obtain ⟨z1, z2, z3, z4⟩ := step_sh HU.out.two.run.good HU.out.one.run.good HU.out.sim HU.out.op HIN.out HSM.out H7.out.2.2.2.2.2 hst2
                          have H8 : Hid (TwoI W w8 gg gp S2 X2 Fp2 gh hp T3 Y2 Fq2 A B ao ac bo bc gs S v d (n + m + 410 + (k + 1)) (k + 1)) := (HU.out.both (w2 := w8) H7.out.1 H7.out.2.1 H7.out.2.2.1 H7.out.2.2.2.1 H7.out.2.2.2.2.1).2 hgb hFb hcb hr2 (by have := HU.out.two.pot; omega) z1 z2
                          have hid := step_id HU.out.one.run.good HIN.out H7.out.2.2.2.2.2
                          have hub : X2.op ≤ 2 + ((n + m + 410 + k + 1 : Nat) : Int) := by
                            have h1 := H7.out.2.2.2.2.1
                            unfold Lw.pot at h1
                            simp only at h1
                            omega
                          have HS2 := hideIt hst2
                          subst z3
                          clear hgb hFb hcb hr2 hp2 z1 z2 b0 b1 b2 HPL2 hst2
                          rcases z4 with ⟨rfl, rfl⟩ | ⟨hm1, rfl⟩
                          · have HN : Hid (∃ S1 X1 Fp T Y Fq, TwoI W w8 gg gp S1 X1 Fp gh hp T Y Fq A B ao ac bo bc gs S v d (n + m + 410 + (k + 1)) (k + 1) ∧ MoreI d d T) := ⟨S2, X2, Fp2, T3, Y2, Fq2, H8.out, .inl rfl⟩
                            clear hid hub
                            go_wp2_with fail
                            go_roundw
                            case rel => exact ⟨d, k + 1, rfl, by omega, by go_num, HN.out⟩
                            case measure => simp [intOf]; omega
                          · have hd0 := HDP.out.1
                            have hmm : ¬ mm = 0 := by omega
                            have hmp : 0 < mm := by omega
                            have hnn : ¬ mm + d = 0 := by omega
                            have hlt2 : ¬ mm + d < mm := by omega
                            have hq1 : (mm + d == 0) = false := beq_eq_false_iff_ne.2 hnn
                            have hq2 : (mm == 0) = false := beq_eq_false_iff_ne.2 hmm
                            have hmb : mm + d ≤ 1000000000000 := by have := HDP.out.2; omega
                            have hv1 : wrap64 (mm + d) = mm + d := IntWalk.wrap64_in _ (by omega)
                            have hv2 : wrap64 d = d := IntWalk.wrap64_in _ (by omega)
                            have hv3 : wrap64 (mm + d - mm) = d := by rw [IntWalk.wrap64_in _ (by omega)]; omega
                            have hw1 : IntKind.i64.wrap (mm + d) = mm + d := IntWalk.i64_in _ (by omega)
                            have hw2 : IntKind.i64.wrap d = d := IntWalk.i64_in _ (by omega)
                            have hw3 : IntKind.i64.wrap (mm + d - mm) = d := by rw [IntWalk.i64_in _ (by omega)]; omega
                            clear hid hub
                            have hmd : ¬ d < 0 := by omega
                            have HN : Hid (∃ S1 X1 Fp T Y Fq, TwoI W w8 gg gp S1 X1 Fp gh hp T Y Fq A B ao ac bo bc gs S v d (n + m + 410 + (k + 1)) (k + 1) ∧ MoreI d d T) := ⟨S2, X2, Fp2, T3, Y2, Fq2, H8.out, .inl rfl⟩
                            clear hmb hm1
                            go_wp2_with fail
                            go_roundw
                            case rel => exact ⟨d, k + 1, rfl, by omega, by go_num, HN.out⟩
                            case measure => simp [intOf]; omega
                    · obtain rfl : mv = -1 := by rcases HMV.out with h | h; exact absurd h hmd; exact h.1
                      have HN : Hid (∃ S1 X1 Fp T Y Fq, TwoI W Q gg gp S1 X1 Fp gh hp T Y Fq A B ao ac bo bc gs S v d (n + m + 410 + (k + 1)) (k + 1) ∧ MoreI (-1) d T) := ⟨S1, X1, Fp, T, Y, Fq, (HT.out.below KQ.out.2.2.2).more, HMV.out⟩
                      clear hmd
                      by_cases hr1 : 0 < r
                      · go_wp2_with fail
                        go_roundw
                        case rel => exact ⟨-1, k + 1, rfl, by omega, by go_num, HN.out⟩
                        case measure => simp [intOf]; omega
                      · go_wp2_with fail
                        go_roundw
                        case rel => exact ⟨-1, k + 1, rfl, by omega, by go_num, HN.out⟩
                        case measure => simp [intOf]; omega
                  · have HK3 : Hid (kd ≠ 4) := h4
                    have HSM : Hid (AimA kd a a d) := .inl ⟨h4, rfl⟩
                    obtain ⟨U, hU⟩ : ∃ U, U = V2 := ⟨_, rfl⟩
                    have HUB : Hid (Below wr.heap.size wr U ∧ U.heap[g1]? = some (bOpk kd a p) ∧ U.heap[g2]? = some (bOpk kd a p)) := by rw [hU]; exact ⟨K2.out.2.2.2.2.1, K2.out.2.2.2.1, K2.out.2.2.1⟩
                    have KU := hideIt hU
                    obtain ⟨b0, b1, b2⟩ := gblk3 K2.out.2.2.2.1
                    clear hU
                    go_upto_region 31 with fail
                    rw [← KU.out]
                    clear b0 b1 b2 h4
                    as_aux_lemma =>
                      have HU := hideIt (HT.out.below HUB.out.1)
                      obtain ⟨b0, b1, b2⟩ := gblk3 HUB.out.2.1
                      obtain ⟨e0, e1, e2⟩ := gblk3 HUB.out.2.2
                      obtain ⟨gl, hpl1⟩ := HU.out.one.run.pln
                      have HPL := hideIt (gplayA gg gp S1 X1 Fp A B ao ac bo bc U kd a p gl HU.out.one.game HU.out.one.run.good hpl1 (by have := HU.out.one.run.plan; omega) (by have := HU.out.one.pot; omega) HK.out.1 HK.out.2 HU.out.one.run.hps HP.out.2)
                      clear hpl1
                      go_wp2_with fail
                      refine HPL.out.mono ?_
                      rintro e w7 ⟨S2, X2, nn, er, ⟨rfl, Fp2, hga, hFa, hca⟩, hst1⟩
                      obtain ⟨hr1, hp1, _⟩ := step_run HK.out.1 HK.out.2 HU.out.one.run hst1
                      have hp1' : Lw.pot (S2, X2.op) ≤ 2 + ((n + m + 410 + k + 1 : Nat) : Int) := by have := HU.out.one.pot; omega
                      have H7 : Hid (GameAt w7 gg gp S2 X2 Fp2 A B ao ac bo bc ∧ (∀ y, Fp2 y → Fp y ∨ U.heap.size ≤ y) ∧ Chg Fp U w7 ∧ Run1 S2 X2 ∧ Lw.pot (S2, X2.op) ≤ 2 + ((n + m + 410 + k + 1 : Nat) : Int) ∧ StepR A B kd a p S1 X1 S2 X2 nn er) := ⟨hga, hFa, hca, hr1, hp1', hst1⟩
                      have q2 := (HU.out.both (w2 := w7) hga hFa hca hr1 hp1').1.2
                      obtain ⟨gl2, hpl2⟩ := q2.run.pln
                      have HPL2 := hideIt (gplayA gh hp T Y Fq A B ao ac bo bc w7 kd a p gl2 q2.game q2.run.good hpl2 (by have := q2.run.plan; omega) (by have := q2.pot; omega) HK.out.1 HK.out.2 q2.run.hps HP.out.2)
                      have hb7 : w7.heap[g1]? = some (bOpk kd a p) := (hca.block g1 (Array.getElem?_eq_some_iff.1 HUB.out.2.1).1 (fun hf => by have h1 := HT.out.one.game.desk.lt g1 hf; have h2 := K1.out.2.1; omega)).trans HUB.out.2.1
                      clear hga hFa hca hr1 hp1 hp1' hst1 q2 hpl2 b0 b1 b2 e0 e1 e2 HPL
                      obtain ⟨b0, b1, b2⟩ := gblk3 hb7
                      clear hb7
                      go_wp2_with fail
                      refine HPL2.out.mono ?_
                      rintro e w8 ⟨T3, Y2, mm, f, ⟨rfl, Fq2, hgb, hFb, hcb⟩, hst2⟩
                      obtain ⟨hr2, hp2, _⟩ := step_run HK.out.1 HK.out.2 HU.out.two.run hst2
                      obtain ⟨z1, z2, z3, z4⟩ := step_sh HU.out.two.run.good HU.out.one.run.good HU.out.sim HU.out.op HIN.out HSM.out H7.out.2.2.2.2.2 hst2
                      have H8 : Hid (TwoI W w8 gg gp S2 X2 Fp2 gh hp T3 Y2 Fq2 A B ao ac bo bc gs S v d (n + m + 410 + (k + 1)) (k + 1)) := (HU.out.both (w2 := w8) H7.out.1 H7.out.2.1 H7.out.2.2.1 H7.out.2.2.2.1 H7.out.2.2.2.2.1).2 hgb hFb hcb hr2 (by have := HU.out.two.pot; omega) z1 z2
                      have hid := step_id HU.out.one.run.good HIN.out H7.out.2.2.2.2.2
                      have hub : X2.op ≤ 2 + ((n + m + 410 + k + 1 : Nat) : Int) := by
                        have h1 := H7.out.2.2.2.2.1
                        unfold Lw.pot at h1
                        simp only at h1
                        omega
                      have HS2 := hideIt hst2
                      subst z3
                      clear hgb hFb hcb hr2 hp2 z1 z2 b0 b1 b2 HPL2 hst2
                      rcases z4 with ⟨rfl, rfl⟩ | ⟨hm1, rfl⟩
                      · have HN : Hid (∃ S1 X1 Fp T Y Fq, TwoI W w8 gg gp S1 X1 Fp gh hp T Y Fq A B ao ac bo bc gs S v d (n + m + 410 + (k + 1)) (k + 1) ∧ MoreI mv d T) := ⟨S2, X2, Fp2, T3, Y2, Fq2, H8.out, Or.imp id (fun h => ⟨h.1, empty_step HU.out.two.run.good h.2 (by have := HIN.out; have := HK3.out; omega) HS2.out rfl⟩) HMV.out⟩
                        clear hid hub
                        go_wp2_with fail
                        go_roundw
                        case rel => exact ⟨mv, k + 1, rfl, by omega, by go_num, HN.out⟩
                        case measure => simp [intOf]; omega
                      · have hd0 := HDP.out.1
                        have hmm : ¬ mm = 0 := by omega
                        have hmp : 0 < mm := by omega
                        have hnn : ¬ mm + d = 0 := by omega
                        have hlt2 : ¬ mm + d < mm := by omega
                        have hq1 : (mm + d == 0) = false := beq_eq_false_iff_ne.2 hnn
                        have hq2 : (mm == 0) = false := beq_eq_false_iff_ne.2 hmm
                        have hmb : mm + d ≤ 1000000000000 := by have := HDP.out.2; omega
                        have hv1 : wrap64 (mm + d) = mm + d := IntWalk.wrap64_in _ (by omega)
                        have hv2 : wrap64 d = d := IntWalk.wrap64_in _ (by omega)
                        have hv3 : wrap64 (mm + d - mm) = d := by rw [IntWalk.wrap64_in _ (by omega)]; omega
                        have hw1 : IntKind.i64.wrap (mm + d) = mm + d := IntWalk.i64_in _ (by omega)
                        have hw2 : IntKind.i64.wrap d = d := IntWalk.i64_in _ (by omega)
                        have hw3 : IntKind.i64.wrap (mm + d - mm) = d := by rw [IntWalk.i64_in _ (by omega)]; omega
                        clear hid hub
                        by_cases hmv : mv = d
                        · have hmv2 := hmv.symm
                          subst hmv2
                          clear hmv
                          have hmd : ¬ d < 0 := by omega
                          have HN : Hid (∃ S1 X1 Fp T Y Fq, TwoI W w8 gg gp S1 X1 Fp gh hp T Y Fq A B ao ac bo bc gs S v d (n + m + 410 + (k + 1)) (k + 1) ∧ MoreI d d T) := ⟨S2, X2, Fp2, T3, Y2, Fq2, H8.out, .inl rfl⟩
                          clear hmb hm1
                          go_wp2_with fail
                          go_roundw
                          case rel => exact ⟨d, k + 1, rfl, by omega, by go_num, HN.out⟩
                          case measure => simp [intOf]; omega
                        · obtain rfl : mv = -1 := by rcases HMV.out with h | h; exact absurd h hmv; exact h.1
                          have hmv := hmv
                          have HN : Hid (∃ S1 X1 Fp T Y Fq, TwoI W w8 gg gp S1 X1 Fp gh hp T Y Fq A B ao ac bo bc gs S v d (n + m + 410 + (k + 1)) (k + 1) ∧ MoreI d d T) := ⟨S2, X2, Fp2, T3, Y2, Fq2, H8.out, .inl rfl⟩
                          clear hmb hm1 hmv
                          go_wp2_with fail
                          go_roundw
                          case rel => exact ⟨d, k + 1, rfl, by omega, by go_num, HN.out⟩
                          case measure => simp [intOf]; omega
            · have hlti : ¬ (k : Int) < (q : Int) := by omega
              as_aux_lemma =>
                have hfit := fits_way HT.out.one.run HT.out.one.pot (by omega)
                have HSH := hideIt (show_any gp S1 X1 Fp wr HT.out.one.game.desk hfit.1)
                obtain ⟨x0, x1, x2, x3, x4⟩ := gblk5 HT.out.one.game.box
                clear hfit
                go_wp2_with fail
                refine HSH.out.mono ?_
                rintro e w5 ⟨v1, rfl, hnew, hb5⟩
                obtain ⟨V5, hV5⟩ : ∃ V5, V5 = stS w5 gs S1 v1 := ⟨_, rfl⟩
                have H5 : Hid (V5 = stS w5 gs S1 v1 ∧ V5.heap[gs]? = some (bSta S1 v1) ∧ StaAt V5 S1 v1 ∧ ArrI W V5 gh hp T Y Fq A B ao ac bo bc k) := by
                  have hch := stS_chg w5 gs S1 v1
                  rw [← hV5] at hch
                  have hbx := gblk HT.out.box.box hb5
                  have hlt5 := HT.out.box.lt
                  have h2 := HT.out.two.below hb5
                  refine ⟨hV5, by rw [hV5]; exact stS_box hbx S1 v1, ?_, h2.game.store hch HT.out.n2 (fun hf => HT.out.box.dgs (.inr hf)) HT.out.na HT.out.nb, h2.run, h2.pot, h2.fp, h2.bel.trans (hch.below h2.bel.size (fun y hy => by rw [show y = gs from hy]; exact HT.out.s0))⟩
                  refine sta_keep ⟨own_row hnew.p, own_row hnew.s, own_row hnew.t, own_row hnew.l⟩ hch.size (fun g hg => hch.block g (new_blk hnew g hg).2 (fun e => ?_))
                  have h1 := (new_blk hnew g hg).1
                  have h3 : g = gs := e
                  omega
                obtain ⟨t0, t1, t2, t3, t4, t5, t6, tz⟩ := blk7d (gblk HT.out.box.box hb5)
                clear hnew hb5 hV5 x0 x1 x2 x3 x4 HSH
                go_upto_region 40 with fail
                have hst := H5.out.1
                unfold stS at hst
                rw [← hst]
                clear hst
                clear t0 t1 t2 t3 t4 t5 t6 tz
                have hfit := fits_way H5.out.2.2.2.run H5.out.2.2.2.pot (by omega)
                have HSH := hideIt (show_any hp T Y Fq V5 H5.out.2.2.2.game.desk hfit.1)
                have HFT := hideIt hfit
                obtain ⟨x0, x1, x2, x3, x4⟩ := gblk5 H5.out.2.2.2.game.box
                clear hfit
                go_wp2_with fail
                refine HSH.out.mono ?_
                rintro e w6 ⟨v2, rfl, hnew, hb6⟩
                obtain ⟨b, hb⟩ : ∃ b, T.bud = b := ⟨_, rfl⟩
                obtain ⟨n1, hn1⟩ : ∃ n1, T.pools.length = n1 := ⟨_, rfl⟩
                obtain ⟨ns, hns⟩ : ∃ ns, T.srv.length = ns := ⟨_, rfl⟩
                obtain ⟨nw, hnw⟩ : ∃ nw, T.wts.length = nw := ⟨_, rfl⟩
                obtain ⟨n4, hn4⟩ : ∃ n4, T.plan.length = n4 := ⟨_, rfl⟩
                obtain ⟨bg, hbg⟩ : ∃ bg, T.begun = bg := ⟨_, rfl⟩
                obtain ⟨bk, hbk⟩ : ∃ bk, T.back = bk := ⟨_, rfl⟩
                have e1 : bSta S1 v1 = .cells #[.int .i64 b, .slice v1.po n1 v1.pc, .slice v1.so ns v1.sc, .slice v1.wo nw v1.wc, .slice v1.to n4 v1.tc, .bool bg, .bool bk] 33 := by
                  rw [HT.out.sim]
                  simp only [bSta, shS, List.length_map, hb, hn1, hns, hnw, hn4, hbg, hbk]
                have e2 : bSta T v2 = .cells #[.int .i64 b, .slice v2.po n1 v2.pc, .slice v2.so ns v2.sc, .slice v2.wo nw v2.wc, .slice v2.to n4 v2.tc, .bool bg, .bool bk] 33 := by simp only [bSta, hb, hn1, hns, hnw, hn4, hbg, hbk]
                have hag : staA T v2 = .agg #[.int .i64 b, .slice v2.po n1 v2.pc, .slice v2.so ns v2.sc, .slice v2.wo nw v2.wc, .slice v2.to n4 v2.tc, .bool bg, .bool bk] := by simp only [staA, hb, hn1, hns, hnw, hn4, hbg, hbk]
                rw [hag]
                obtain ⟨V6, hV6⟩ : ∃ V6, V6 = w6.alloc (bSta T v2) := ⟨_, rfl⟩
                obtain ⟨gt, hgt⟩ : ∃ gt, w6.heap.size = gt := ⟨_, rfl⟩
                have hb56 : Below V5.heap.size V5 V6 := by rw [hV6]; exact nx_trans hb6 (nx_alloc _ _)
                have H6 : Hid (V6.heap[gs]? = some (.cells #[.int .i64 b, .slice v1.po n1 v1.pc, .slice v1.so ns v1.sc, .slice v1.wo nw v1.wc, .slice v1.to n4 v1.tc, .bool bg, .bool bk] 33) ∧ V6.heap[gt]? = some (.cells #[.int .i64 b, .slice v2.po n1 v2.pc, .slice v2.so ns v2.sc, .slice v2.wo nw v2.wc, .slice v2.to n4 v2.tc, .bool bg, .bool bk] 33) ∧ RowAt V6 (.slice v1.po n1 v1.pc) n1 (flatP T.pools) ∧ RowAt V6 (.slice v1.so ns v1.sc) ns (flatV (T.srv.map (sh d))) ∧ RowAt V6 (.slice v1.wo nw v1.wc) nw (flatW T.wts) ∧ RowAt V6 (.slice v2.po n1 v2.pc) n1 (flatP T.pools) ∧ RowAt V6 (.slice v2.so ns v2.sc) ns (flatV T.srv) ∧ RowAt V6 (.slice v2.wo nw v2.wc) nw (flatW T.wts)) := by
                  have q1 := H5.out.2.2.1.nx hb56
                  have q2 : StaAt V6 T v2 := by rw [hV6]; exact ⟨(own_row hnew.p).nx (nx_alloc _ _), (own_row hnew.s).nx (nx_alloc _ _), (own_row hnew.t).nx (nx_alloc _ _), (own_row hnew.l).nx (nx_alloc _ _)⟩
                  rw [HT.out.sim] at q1
                  have p1 := q1.p
                  have p2 := q1.s
                  have p3 := q1.t
                  have p4 := q2.p
                  have p5 := q2.s
                  have p6 := q2.t
                  simp only [shS, List.length_map, hn1, hns, hnw] at p1 p2 p3 p4 p5 p6
                  exact ⟨by rw [← e1]; exact gblk H5.out.2.1 hb56, by rw [← e2, hV6]; exact heap_alloc_at _ _ hgt.symm, p1, p2, p3, p4, p5, p6⟩
                have KV6 : Hid (V6 = w6.alloc (.cells #[.int .i64 b, .slice v2.po n1 v2.pc, .slice v2.so ns v2.sc, .slice v2.wo nw v2.wc, .slice v2.to n4 v2.tc, .bool bg, .bool bk] 33) ∧ w6.heap.size = gt ∧ Below w.heap.size w V6) := ⟨by rw [hV6, e2], hgt, nx_trans HG0.out (nx_trans H5.out.2.2.2.bel hb56)⟩
                have HLN : Hid (T.srv.length = ns ∧ T.wts.length = nw) := ⟨hns, hnw⟩
                have HSM := hideIt (ksame_true b v1.po v2.po n1 v1.pc v2.pc T.pools V6 H6.out.2.2.1 H6.out.2.2.2.2.2.1 hn1 (by obtain ⟨g, hg⟩ := H5.out.2.2.2.run.pln; have := hg.tab.len; unfold maxLen; omega))
                have hnsb : ns ≤ 1099511627776 := by rw [← hns]; exact HFT.out.2.2.1
                have hnwb : nw ≤ 1099511627776 := by rw [← hnw]; exact HFT.out.2.2.2
                have HMD : Hid (∀ x ∈ T.srv, mv = d ∧ 1 ≤ x.id ∧ x.id ≤ 1000000000000) := by
                  intro x hx
                  have h1 := HT.out.two.run.good.fine.inv.low x hx
                  have h2 := HT.out.two.pot
                  unfold Lw.pot at h2
                  simp only at h2
                  refine ⟨?_, h1.1, by omega⟩
                  rcases HMV.out with h | h
                  · exact h
                  · rw [h.2] at hx; simp at hx
                clear hnew hb6 hb hn1 hns hnw hn4 hbg hbk e1 e2 hag hV6 hgt hb56 x0 x1 x2 x3 x4 HSH
                obtain ⟨s0, s1, s2, s3, s4, s5, s6⟩ := gblk7 H6.out.1
                obtain ⟨t0, t1, t2, t3, t4, t5, t6⟩ := gblk7 H6.out.2.1
                go_upto_region 41 with fail
                rw [← KV6.out.1, KV6.out.2.1]
                go_wp2_with fail
                refine HSM.out.mono ?_
                rintro e w7 ⟨rfl, hb7⟩
                have HB7 : Hid (Below V6.heap.size V6 w7) := hb7
                clear hb7 s0 s1 s2 s3 s4 s5 s6 t0 t1 t2 t3 t4 t5 t6
                obtain ⟨s0, s1, s2, s3, s4, s5, s6⟩ := gblk7 (gblk H6.out.1 HB7.out)
                obtain ⟨t0, t1, t2, t3, t4, t5, t6⟩ := gblk7 (gblk H6.out.2.1 HB7.out)
                go_wp2_with fail
                clear s0 s1 s2 s3 s4 s5 s6 t0 t1 t2 t3 t4 t5 t6
                go_loopw [31] (fun i wr => ∃ j : Nat, j ≤ ns ∧ i = .int .i64 j ∧ Hid (Below V6.heap.size V6 wr)) (fun i _ => ns - (intOf i).toNat)
                case atStart => exact ⟨0, Nat.zero_le _, rfl, HB7.out⟩
                case round =>
                  clear HB7
                  obtain ⟨j, hj, rfl, HB⟩ := hrel
                  obtain ⟨s0, s1, s2, s3, s4, s5, s6⟩ := gblk7 (gblk H6.out.1 HB.out)
                  obtain ⟨t0, t1, t2, t3, t4, t5, t6⟩ := gblk7 (gblk H6.out.2.1 HB.out)
                  by_cases hjt : j < ns
                  · obtain ⟨⟨y0, y1, y2, y3⟩, hy⟩ : ∃ p, T.srv[j]? = some p := ⟨_, List.getElem?_eq_getElem (by rw [HLN.out.1]; exact hjt)⟩
                    have hy' : (T.srv.map (sh d))[j]? = some ⟨y0 + d, y1, y2, y3⟩ := by rw [List.getElem?_map, hy]; rfl
                    obtain ⟨bl, off, hao, hbl, c0, c1, c2, c3⟩ := sv_at (H6.out.2.2.2.1.nx HB.out) hy'
                    obtain ⟨bl', off', hao', hbl', d0, d1, d2, d3⟩ := sv_at (H6.out.2.2.2.2.2.2.1.nx HB.out) hy
                    have hmm := HMD.out _ (List.mem_of_getElem? hy)
                    simp only at c0 c1 c2 c3 d0 d1 d2 d3 hmm
                    rw [hao] at s2
                    rw [hao'] at t2
                    obtain ⟨hmd, hy1, hy2⟩ := hmm
                    have hlti : (j : Int) < (ns : Int) := by omega
                    have hdd := HDP.out
                    obtain ⟨P, hP⟩ : ∃ P, P = wr.alloc (.cells #[.int .i64 y0, .string y1, .int .i64 y2, .int .i64 y3] 55) := ⟨_, rfl⟩
                    obtain ⟨gq, hgq⟩ : ∃ gq, wr.heap.size = gq := ⟨_, rfl⟩
                    have HPB : Hid (P = wr.alloc (.cells #[.int .i64 y0, .string y1, .int .i64 y2, .int .i64 y3] 55) ∧ P.heap[gq]? = some (.cells #[.int .i64 y0, .string y1, .int .i64 y2, .int .i64 y3] 55) ∧ Below wr.heap.size wr P ∧ wr.heap.size = gq) := ⟨hP, by rw [hP]; exact heap_alloc_at _ _ hgq.symm, by rw [hP]; exact nx_alloc _ _, hgq⟩
                    obtain ⟨bl2, off2, hao2, hbl2, f0, f1, f2, f3⟩ := sv_at (H6.out.2.2.2.2.2.2.1.nx (nx_trans HB.out HPB.out.2.2.1)) hy
                    obtain ⟨rfl, rfl⟩ : bl' = bl2 ∧ off' = off2 := by simpa using hao'.symm.trans hao2
                    simp only at f0 f1 f2 f3
                    have HF2 : Hid (P.cell? ⟨bl', off' + j * 4, none⟩ = some (.int .i64 y0) ∧ P.cell? ⟨bl', off' + j * 4 + 1, none⟩ = some (.string y1) ∧ P.cell? ⟨bl', off' + j * 4 + 2, none⟩ = some (.int .i64 y2) ∧ P.cell? ⟨bl', off' + j * 4 + 3, none⟩ = some (.int .i64 y3) ∧ P.cell? ⟨gt, 2, none⟩ = some (.slice (some ⟨bl', off', none⟩) ns v2.sc)) := ⟨f0, f1, f2, f3, by rw [← hao']; exact (gblk7 (gblk H6.out.2.1 (nx_trans HB.out HPB.out.2.2.1))).2.2.1⟩
                    clear hP hgq f0 f1 f2 f3 hao2 hbl2
                    have hwp : wrap64 (y0 + d - d) = y0 := by rw [IntWalk.wrap64_in _ (by omega)]; omega
                    have hwq : wrap64 y0 = y0 := IntWalk.wrap64_in _ (by omega)
                    have hwi : IntKind.i64.wrap (y0 + d - d) = y0 := by rw [IntWalk.i64_in _ (by omega)]; omega
                    have hwj : IntKind.i64.wrap y0 = y0 := IntWalk.i64_in _ (by omega)
                    subst hmd
                    clear hy hy' hao hao' hdd
                    go_upto_region 49 with fail
                    rw [← HPB.out.1, HPB.out.2.2.2]
                    clear s0 s1 s2 s3 s4 s5 s6 t0 t1 t2 t3 t4 t5 t6 c0 c1 c2 c3 d0 d1 d2 d3 hwp hwq hwi hwj
                    obtain ⟨p0, p1, p2, p3, pz⟩ := blk4d HPB.out.2.1
                    obtain ⟨f0, f1, f2, f3, f4⟩ := HF2.out
                    go_quiet (fail)
                    clear p0 p1 p2 p3 pz f0 f1 f2 f3 f4
                    go_wp2_with fail
                    go_roundw
                    case rel => exact ⟨j + 1, by omega, by go_num, below_drewN (nx_trans HB.out HPB.out.2.2.1) _⟩
                    case measure => simp [intOf]; omega
                  · have hjti : ¬ (j : Int) < (ns : Int) := by omega
                    clear hj hjt
                    go_wp2_with fail
                    clear s0 s1 s2 s3 s4 s5 s6 t0 t1 t2 t3 t4 t5 t6 hjti
                    go_loopw [33] (fun i wr => ∃ j : Nat, j ≤ nw ∧ i = .int .i64 j ∧ Hid (Below V6.heap.size V6 wr)) (fun i _ => nw - (intOf i).toNat)
                    case atStart => exact ⟨0, Nat.zero_le _, rfl, HB.out⟩
                    case round =>
                      clear HB
                      obtain ⟨j, hj, rfl, HB⟩ := hrel
                      obtain ⟨s0, s1, s2, s3, s4, s5, s6⟩ := gblk7 (gblk H6.out.1 HB.out)
                      obtain ⟨t0, t1, t2, t3, t4, t5, t6⟩ := gblk7 (gblk H6.out.2.1 HB.out)
                      by_cases hjt : j < nw
                      · obtain ⟨⟨y0, y1⟩, hy⟩ : ∃ p, T.wts[j]? = some p := ⟨_, List.getElem?_eq_getElem (by rw [HLN.out.2]; exact hjt)⟩
                        obtain ⟨bl, off, hao, hbl, c0, c1⟩ := wt_at (H6.out.2.2.2.2.1.nx HB.out) hy
                        obtain ⟨bl', off', hao', hbl', d0, d1⟩ := wt_at (H6.out.2.2.2.2.2.2.2.nx HB.out) hy
                        simp only at c0 c1 d0 d1
                        rw [hao] at s3
                        rw [hao'] at t3
                        have hlti : (j : Int) < (nw : Int) := by omega
                        clear hy hbl hbl' hao hao'
                        go_wp2_with fail
                        go_quiet (fail)
                        clear s0 s1 s2 s3 s4 s5 s6 t0 t1 t2 t3 t4 t5 t6 c0 c1 d0 d1
                        go_wp2_with fail
                        go_roundw
                        case rel => exact ⟨j + 1, by omega, by go_num, below_drewN HB.out _⟩
                        case measure => simp [intOf]; omega
                      · have hjti : ¬ (j : Int) < (nw : Int) := by omega
                        go_wp2_with fail
                        go_ret
                        exact ⟨rfl, nx_trans KV6.out.2.2 HB.out⟩
end Lw
end Go.Proofs.YtohbonfngeblkaaGreat
