import Derived.Test.YtohbonfngeblkaaGreatMkAz
import Derived.Test.YtohbonfngeblkaaGreatMkAh
namespace Go.Proofs.YtohbonfngeblkaaGreat
open Go.RowKit
namespace Lw
open Co
structure KeptI (w0 w : World) (gg gp : Nat) (S : Sta) (X : Aux) (Fp : Nat → Prop) (A B : Int × List Pl) (ao : Option Addr) (ac : Nat) (bo : Option Addr) (bc : Nat) (gs : Nat) (v : Stv) (k : Nat) : Prop where
  game : GameAt w gg gp S X Fp A B ao ac bo bc
  snap : Snap w gs S v Fp
  run : Run1 S X
  pot : pot (S, X.op) ≤ 2 + k
  ne : gg ≠ gs
  na : ∀ g, (Value.slice ao A.2.length ac).ownBlock = some g → g ≠ gs
  nb : ∀ g, (Value.slice bo B.2.length bc).ownBlock = some g → g ≠ gs
  fp : ∀ y, Fp y → w0.heap.size ≤ y
  gs0 : w0.heap.size ≤ gs
  bel : Below w0.heap.size w0 w
theorem fits_run {S : Sta} {X : Aux} {k : Nat} (h : Run1 S X) (hp : Lw.pot (S, X.op) ≤ 2 + k) (hk : k ≤ 1073741824) : Fits S ∧ Lw.pot (S, X.op) + 1 ≤ 549755813888 ∧ S.srv.length ≤ 1099511627776 ∧ S.wts.length ≤ 1099511627776 := by
  obtain ⟨g, hg⟩ := h.pln
  have h6 := hg.tab.len
  have h5 := h.plan
  exact fits_of h.good hp hk (by omega) (by omega)
set_option maxRecDepth 20000 in
set_option maxHeartbeats 8000000 in
theorem kept_any (b1 : Int) (xs : List Pl) (xo : Option Addr) (nx xc : Nat) (b2 : Int) (ys : List Pl) (yo : Option Addr) (ny yc : Nat) (os : List Opk) (co : Option Addr) (n cc : Nat) (w : World)
    (hr1 : RowAt w (.slice xo nx xc) nx (flatP xs)) (hn1 : xs.length = nx) (hm1 : nx ≤ maxLen) (hb1 : I64 b1) (hx1 : ∀ x ∈ xs, I64 x.sz ∧ I64 x.wt ∧ I64 x.fr)
    (hr2 : RowAt w (.slice yo ny yc) ny (flatP ys)) (hn2 : ys.length = ny) (hm2 : ny ≤ maxLen) (hb2 : I64 b2) (hx2 : ∀ x ∈ ys, I64 x.sz ∧ I64 x.wt ∧ I64 x.fr)
    (hr : RowAt w (.slice co n cc) n (flatK os)) (hn : os.length = n) (hI : ∀ x ∈ os, I64 x.b) (hq : n ≤ 1073741823) :
    Calls Tryz.prog 4 #[.agg #[.int .i64 b1, .slice xo nx xc], .agg #[.int .i64 b2, .slice yo ny yc], .slice co n cc] w fun e w' => e = .returned (.bool true) ∧ Below w.heap.size w w' := by
  obtain ⟨W, hW⟩ : ∃ W, W = (w.alloc (bTab b1 (.slice xo nx xc))).alloc (bTab b2 (.slice yo ny yc)) := ⟨_, rfl⟩
  have hbW : Below w.heap.size w W := by rw [hW]; exact nx_trans (nx_alloc _ _) (nx_alloc _ _)
  have HW : Hid (W = (w.alloc (bTab b1 (.slice xo nx xc))).alloc (bTab b2 (.slice yo ny yc)) ∧ W.heap[w.heap.size]? = some (bTab b1 (.slice xo nx xc)) ∧ W.heap[w.heap.size + 1]? = some (bTab b2 (.slice yo ny yc)) ∧ Below w.heap.size w W) := by
    refine ⟨hW, ?_, ?_, hbW⟩
    · rw [hW]; exact (heap_alloc_lt _ _ (by simp)).trans (heap_alloc_at _ _ rfl)
    · rw [hW]; exact heap_alloc_at _ _ (by simp)
  have HO := hideIt (gOpened b1 xs xo nx xc b2 ys yo ny yc W (hr1.nx hbW) hn1 hm1 hb1 hx1 (hr2.nx hbW) hn2 hm2 hb2 hx2)
  have HR : Hid (RowAt W (.slice co n cc) n (flatK os) ∧ os.length = n ∧ ∀ x ∈ os, I64 x.b) := ⟨hr.nx hbW, hn, hI⟩
  clear hr1 hn1 hm1 hb1 hx1 hr2 hn2 hm2 hb2 hx2 hr hn hI hW hbW
  go_enter Tryz.func4, Tryz.ntmps4
  go_upto_region 1 with fail
  rw [← HW.out.1]
  obtain ⟨a0, a1⟩ := gblk2 HW.out.2.1
  obtain ⟨d0, d1⟩ := gblk2 HW.out.2.2.1
  go_wp2_with fail
  refine HO.out.mono ?_
  rintro e w1 ⟨gg, gp, S, X, Fp, A, B, ao, ac, bo, bc, rfl, hgame, hokA, hokB, hfr, hF, hb1⟩
  have HK : Hid (Okt A.1 A.2 ∧ Okt B.1 B.2) := ⟨hokA, hokB⟩
  have hrun := run1_fresh hokA hfr
  have hfit := fits_run (k := 0) hrun hfr.pot (by omega)
  have HSH := hideIt (show_any gp S X Fp w1 hgame.desk hfit.1)
  have HG := hideIt hgame
  have HFR : Hid (Run1 S X ∧ Lw.pot (S, X.op) ≤ 2 ∧ (∀ y, Fp y → W.heap.size ≤ y) ∧ Below W.heap.size W w1) := ⟨hrun, hfr.pot, hF, hb1⟩
  obtain ⟨c0, c1, c2, c3, c4⟩ := gblk5 hgame.box
  clear hgame hokA hokB hfr hF hb1 hfit hrun a0 a1 d0 d1
  go_wp2_with fail
  refine HSH.out.mono ?_
  rintro e w2 ⟨v, rfl, hnew, hb2⟩
  have HI : Hid (KeptI W (w2.alloc (bSta S v)) gg gp S X Fp A B ao ac bo bc w2.heap.size v 0) := by
    have hg2 := HG.out.below (nx_trans hb2 (nx_alloc _ (bSta S v)))
    have hs := snap_new hnew hb2 HG.out.desk.lt
    refine ⟨hg2, hs, HFR.out.1, HFR.out.2.1, ?_, fun g hg e => ?_, fun g hg e => ?_, HFR.out.2.2.1, ?_, nx_trans HFR.out.2.2.2 (nx_trans hb2 (nx_alloc _ _))⟩
    · have := HG.out.lt; have := hb2.size; omega
    · have := (HG.out.la g hg).1; have := hb2.size; omega
    · have := (HG.out.lb g hg).1; have := hb2.size; omega
    · have := HFR.out.2.2.2.size; have := hb2.size; omega
  obtain ⟨gs, hgs⟩ : ∃ gs, w2.heap.size = gs := ⟨_, rfl⟩
  obtain ⟨V2, hV2⟩ : ∃ V2, V2 = w2.alloc (bSta S v) := ⟨_, rfl⟩
  rw [← hV2, hgs] at HI
  have KV : Hid (V2 = w2.alloc (bSta S v) ∧ w2.heap.size = gs) := ⟨hV2, hgs⟩
  clear hnew hb2 c0 c1 c2 c3 c4 hgs hV2
  go_upto_region 5 with fail
  rw [← KV.out.1, KV.out.2]
  go_wp2_with fail
  go_loopw [10] (fun i wr => ∃ k : Nat, k ≤ n ∧ i = .int .i64 k ∧ Hid (∃ S X Fp v, KeptI W wr gg gp S X Fp A B ao ac bo bc gs v k)) (fun i _ => n - (intOf i).toNat)
  case atStart => exact ⟨0, Nat.zero_le _, rfl, _, _, _, _, HI.out⟩
  case round =>
    clear HI HFR HG HSH KV
    obtain ⟨k, hk, rfl, HH⟩ := hrel
    obtain ⟨S, X, Fp, v, hfi⟩ := HH.out
    have HF := hideIt hfi
    clear hfi
    by_cases hlt : k < n
    · obtain ⟨⟨kd, a, p⟩, hp⟩ : ∃ p, os[k]? = some p := ⟨_, List.getElem?_eq_getElem (by rw [HR.out.2.1]; exact hlt)⟩
      obtain ⟨bl, off, hao, hbl, c0, c1, c2⟩ := opk_at (HR.out.1.nx HF.out.bel) hp
      subst hao
      simp only at c0 c1 c2
      have hlti : (k : Int) < (n : Int) := by omega
      have HP : Hid (os[k]? = some ⟨kd, a, p⟩ ∧ I64 p) := ⟨hp, HR.out.2.2 _ (List.mem_of_getElem? hp)⟩
      have hfit := fits_run HF.out.run HF.out.pot (by omega)
      obtain ⟨gl, hpln⟩ := HF.out.run.pln
      have HPL := hideIt (gplayA gg gp S X Fp A B ao ac bo bc wr kd a p gl HF.out.game HF.out.run.good hpln (by have := HF.out.run.plan; omega) hfit.2.1 HK.out.1 HK.out.2 HF.out.run.hps HP.out.2)
      have HFT := hideIt hfit
      clear hp hfit hpln
      go_wp2_with fail
      refine HPL.out.mono ?_
      rintro e w1 ⟨S', X', nn, er, ⟨rfl, Fp', hg1, hF1, hch1⟩, hstep⟩
      obtain ⟨hrun', hpot, hlst⟩ := step_run HK.out.1 HK.out.2 HF.out.run hstep
      have hs1 := HF.out.snap.moved hch1 hF1
      have hfit1 := fits_run (k := k + 1) hrun' (by have := HF.out.pot; omega) (by omega)
      have HSH := hideIt (show_any gp S' X' Fp' w1 hg1.desk hfit1.1)
      have H1 : Hid (GameAt w1 gg gp S' X' Fp' A B ao ac bo bc ∧ Snap w1 gs S v Fp' ∧ Run1 S' X' ∧ Lst S S' kd a nn er ∧ Lw.pot (S', X'.op) ≤ Lw.pot (S, X.op) + 1) := ⟨hg1, hs1, hrun', hlst, hpot⟩
      have HB1 : Hid (Below W.heap.size W w1 ∧ (∀ y, Fp' y → W.heap.size ≤ y)) := ⟨HF.out.bel.trans (hch1.below HF.out.bel.size HF.out.fp), fun y hy => by
        rcases hF1 y hy with h | h
        · exact HF.out.fp y h
        · exact Nat.le_trans HF.out.bel.size h⟩
      have HFT1 := hideIt hfit1
      have HLE : Hid (wr.heap.size ≤ w1.heap.size) := hch1.size
      obtain ⟨x0, x1, x2, x3, x4⟩ := gblk5 hg1.box
      clear hg1 hF1 hch1 hstep hrun' hpot hlst hs1 hfit1 c0 c1 c2
      go_wp2_with fail
      refine HSH.out.mono ?_
      rintro e w2 ⟨v', rfl, hnew, hb2⟩
      have hs2 := snap_new hnew hb2 H1.out.1.desk.lt
      have H2 : Hid (Snap (w2.alloc (bSta S' v')) w2.heap.size S' v' Fp' ∧ Snap (w2.alloc (bSta S' v')) gs S v Fp' ∧ GameAt (w2.alloc (bSta S' v')) gg gp S' X' Fp' A B ao ac bo bc ∧ Below W.heap.size W (w2.alloc (bSta S' v')) ∧ (∀ g, Blg S' v' g → g ≠ gs)) :=
        ⟨hs2, H1.out.2.1.below (nx_trans hb2 (nx_alloc _ _)), H1.out.1.below (nx_trans hb2 (nx_alloc _ _)), nx_trans HB1.out.1 (nx_trans hb2 (nx_alloc _ _)), fun g hg => by have h1 := (new_blk hnew g hg).1; have h2 := H1.out.2.1.lt; omega⟩
      obtain ⟨V, hV⟩ : ∃ V, V = w2.alloc (bSta S' v') := ⟨_, rfl⟩
      rw [← hV] at H2
      have KV : Hid (V = w2.alloc (bSta S' v')) := hV
      have HGT : Hid (gs < V.heap.size ∧ w2.heap.size < V.heap.size ∧ bl < V.heap.size) := ⟨H2.out.2.1.lt, H2.out.1.lt, by
        rw [hV]
        have e1 := hb2.size
        have e2 := HLE.out
        simp
        omega⟩
      clear hnew hb2 hs2 hV x0 x1 x2 x3 x4
      have HWH : Hid (∀ u, Below V.heap.size V u → Calls Tryz.prog 14 #[staA S' v'] u fun e w' => e = .returned (.bool true) ∧ Below u.heap.size u w') := by
        intro u hu
        have q2 := (H2.out.1.below hu).sta
        exact gWhole S'.bud v'.po _ v'.pc v'.so _ v'.sc v'.wo _ v'.wc v'.to _ v'.tc S'.begun S'.back S'.srv S'.wts u (WhoL.of H1.out.2.2.1.good.fine) q2.s rfl HFT1.out.2.2.1 q2.t rfl HFT1.out.2.2.2
      have HLA : Hid (∀ u, Below V.heap.size V u → Calls Tryz.prog 15 #[staA S v, staA S' v', .agg #[.int .i64 kd, .int .i64 a, .int .i64 p], .int .i64 nn, .int .i64 er] u fun e w' => e = .returned (.bool true) ∧ Below u.heap.size u w') := by
        intro u hu
        have q1 := (H2.out.2.1.below hu).sta
        have q2 := (H2.out.1.below hu).sta
        exact gLasting S.bud v.po _ v.pc v.so _ v.sc v.wo _ v.wc v.to _ v.tc S.begun S.back S'.bud v'.po _ v'.pc v'.so _ v'.sc v'.wo _ v'.wc v'.to _ v'.tc S'.begun S'.back kd a p nn er S.srv S'.srv S.wts S'.wts u H1.out.2.2.2.1 q1.s rfl HFT.out.2.2.1 q1.t rfl HFT.out.2.2.2 q2.s rfl HFT1.out.2.2.1 q2.t rfl HFT1.out.2.2.2
      simp only [staA] at HWH HLA
      obtain ⟨t0, t1, t2, t3, t4, t5, t6⟩ := gblk7 H2.out.1.box
      go_upto_region 10 with fail
      rw [← KV.out]
      go_wp2_with fail
      refine (HWH.out V (Below.refl _ _)).mono ?_
      rintro e w2b ⟨rfl, hb2b⟩
      have HBb := hideIt hb2b
      clear t0 t1 t2 t3 t4 t5 t6 hb2b
      obtain ⟨a0, a1, a2, a3, a4, a5, a6⟩ := gblk7 (gblk H2.out.2.1.box HBb.out)
      obtain ⟨t0, t1, t2, t3, t4, t5, t6⟩ := gblk7 (gblk H2.out.1.box HBb.out)
      obtain ⟨bl', off', hao', hbl', c0, c1, c2⟩ := opk_at (HR.out.1.nx (nx_trans H2.out.2.2.2.1 HBb.out)) HP.out.1
      obtain ⟨rfl, rfl⟩ : bl = bl' ∧ off = off' := by simpa using hao'
      simp only at c0 c1 c2
      clear hao' hbl'
      have hgs : gs < w2b.heap.size := Nat.lt_of_lt_of_le HGT.out.1 HBb.out.size
      have hg2 : w2.heap.size < w2b.heap.size := Nat.lt_of_lt_of_le HGT.out.2.1 HBb.out.size
      have hgb : bl < w2b.heap.size := Nat.lt_of_lt_of_le HGT.out.2.2 HBb.out.size
      go_upto_region 11 with fail
      go_cut [15] (fun x wx => x = .bool true ∧ ∃ wy, Hid (Below V.heap.size V wy) ∧ wy = wx)
      case first =>
        go_region_held3 (fun w' => w'.cell? ⟨gs, 0, none⟩ = some (.int .i64 S.bud) ∧ w'.cell? ⟨gs, 1, none⟩ = some (.slice v.po S.pools.length v.pc) ∧ w'.cell? ⟨gs, 2, none⟩ = some (.slice v.so S.srv.length v.sc) ∧ w'.cell? ⟨gs, 3, none⟩ = some (.slice v.wo S.wts.length v.wc) ∧ w'.cell? ⟨gs, 4, none⟩ = some (.slice v.to S.plan.length v.tc) ∧ w'.cell? ⟨gs, 5, none⟩ = some (.bool S.begun) ∧ w'.cell? ⟨gs, 6, none⟩ = some (.bool S.back) ∧ w'.cell? ⟨w2.heap.size, 0, none⟩ = some (.int .i64 S'.bud) ∧ w'.cell? ⟨w2.heap.size, 1, none⟩ = some (.slice v'.po S'.pools.length v'.pc) ∧ w'.cell? ⟨w2.heap.size, 2, none⟩ = some (.slice v'.so S'.srv.length v'.sc) ∧ w'.cell? ⟨w2.heap.size, 3, none⟩ = some (.slice v'.wo S'.wts.length v'.wc) ∧ w'.cell? ⟨w2.heap.size, 4, none⟩ = some (.slice v'.to S'.plan.length v'.tc) ∧ w'.cell? ⟨w2.heap.size, 5, none⟩ = some (.bool S'.begun) ∧ w'.cell? ⟨w2.heap.size, 6, none⟩ = some (.bool S'.back) ∧ w'.cell? ⟨bl, off + k * 3, none⟩ = some (.int .i64 kd) ∧ w'.cell? ⟨bl, off + k * 3 + 1, none⟩ = some (.int .i64 a) ∧ w'.cell? ⟨bl, off + k * 3 + 2, none⟩ = some (.int .i64 p)) (go_keep)
          ((go_at_call 15; refine (HLA.out _ (HBb.out.drew)).mono ?_; rintro e w3 ⟨rfl, hb3⟩; have HB3 : Hid (Below w2b.heap.size w2b w3) := nx_trans (Below.refl _ _).drew hb3; have A0 := (HB3.out.cell (p := ⟨gs, 0, none⟩) hgs).trans a0; have A1 := (HB3.out.cell (p := ⟨gs, 1, none⟩) hgs).trans a1; have A2 := (HB3.out.cell (p := ⟨gs, 2, none⟩) hgs).trans a2; have A3 := (HB3.out.cell (p := ⟨gs, 3, none⟩) hgs).trans a3; have A4 := (HB3.out.cell (p := ⟨gs, 4, none⟩) hgs).trans a4; have A5 := (HB3.out.cell (p := ⟨gs, 5, none⟩) hgs).trans a5; have A6 := (HB3.out.cell (p := ⟨gs, 6, none⟩) hgs).trans a6; have T0 := (HB3.out.cell (p := ⟨w2.heap.size, 0, none⟩) hg2).trans t0; have T1 := (HB3.out.cell (p := ⟨w2.heap.size, 1, none⟩) hg2).trans t1; have T2 := (HB3.out.cell (p := ⟨w2.heap.size, 2, none⟩) hg2).trans t2; have T3 := (HB3.out.cell (p := ⟨w2.heap.size, 3, none⟩) hg2).trans t3; have T4 := (HB3.out.cell (p := ⟨w2.heap.size, 4, none⟩) hg2).trans t4; have T5 := (HB3.out.cell (p := ⟨w2.heap.size, 5, none⟩) hg2).trans t5; have T6 := (HB3.out.cell (p := ⟨w2.heap.size, 6, none⟩) hg2).trans t6; have e0 := (HB3.out.cell (p := ⟨bl, off + k * 3, none⟩) hgb).trans c0; have e1 := (HB3.out.cell (p := ⟨bl, off + k * 3 + 1, none⟩) hgb).trans c1; have e2 := (HB3.out.cell (p := ⟨bl, off + k * 3 + 2, none⟩) hgb).trans c2; clear hb3))
        all_goals
          go_wp2_with fail
          go_meet
          exact ⟨rfl, _, nx_trans HBb.out HB3.out, rfl⟩
      case rest =>
        obtain ⟨rfl, wy, HB4, rfl⟩ := hcut
        clear a0 a1 a2 a3 a4 a5 a6 t0 t1 t2 t3 t4 t5 t6 c0 c1 c2 hgs hg2 hgb
        obtain ⟨t0, t1, t2, t3, t4, t5, t6⟩ := gblk7 (gblk H2.out.1.box HB4.out)
        obtain ⟨x0, x1, x2, x3, x4, x5, x6, xz⟩ := blk7d (gblk H2.out.2.1.box HB4.out)
        have HN : Hid (KeptI W (stS wy gs S' v') gg gp S' X' Fp' A B ao ac bo bc gs v' (k + 1)) := by
          have h := HF.out
          have hs4 := (H2.out.2.1).below HB4.out
          have ht4 := (H2.out.1).below HB4.out
          have hg4 := (H2.out.2.2.1).below HB4.out
          have hch := stS_chg wy gs S' v'
          have hb4 : Below W.heap.size W wy := nx_trans H2.out.2.2.2.1 HB4.out
          exact ⟨hg4.store hch h.ne hs4.dgs h.na h.nb, hs4.store ht4 H2.out.2.2.2.2, H1.out.2.2.1, by have h1 := H1.out.2.2.2.2; have h2 := h.pot; omega, h.ne, h.na, h.nb, HB1.out.2, h.gs0, hb4.trans (hch.below hb4.size (fun y hy => by rw [show y = gs from hy]; exact h.gs0))⟩
        go_wp2_with fail
        go_roundw
        case rel => exact ⟨k + 1, by omega, by go_num, _, _, _, _, HN.out⟩
        case measure => simp [intOf]; omega
    · have hlti : ¬ (k : Int) < (n : Int) := by omega
      go_wp2_with fail
      go_ret
      exact ⟨rfl, nx_trans HW.out.2.2.2 HF.out.bel⟩
end Lw
end Go.Proofs.YtohbonfngeblkaaGreat
namespace Go.Proofs.YtohbonfngeblkaaGreat
namespace Lw
open Go.ChangeShapes Go.WideShapes Go.ChangeAt Go.RowKit Go.ChangeMaps
open Co
set_option maxRecDepth 100000 in
theorem kept_contract (H : Type) (enc : TypeId × Value → H) (W : World) (base : Nat) (args : Array Value) (ds gs : List (DataW H)) (before : List MemPlace)
    (hval : ∀ (j : Nat) t v, Tryz.f4.params[j]? = some t → args[j]? = some v → Value.okWide Tryz.prog W .any base t v)
    (hW : DataW.Whole enc Tryz.prog Tryz.f4.params.toList Rows.keptSpec.vars false W args.toList ds gs before) (hk : Rows.uptoSmall H (ds ++ gs) = true) :
    Calls Tryz.prog 4 args W fun e W' => ∃ v, e = .returned v ∧ Rows.keptSpec.post enc Tryz.prog Tryz.f4 false true false false W args v W' := by
  have hW' := hW
  obtain ⟨p, q, hA0, hV, rfl, hfz, hnd⟩ := hW
  have hA : DataW.TrodAll enc Tryz.prog W 0 (fun _ => true) true Tryz.f4.params.toList args.toList ds p := hA0
  rw [Tryz.params4] at hA hval
  obtain ⟨v0, vs0, d0, ds0, p0, q0, hargs0, rfl, rfl, h0, r0⟩ := trodAll_cons hA
  obtain ⟨v1, vs1, d1, ds1, p1, q1, hargs1, rfl, rfl, h1, r1⟩ := trodAll_cons r0
  obtain ⟨v2, vs2, d2, ds2, p2, q2, hargs2, rfl, rfl, h2, r2⟩ := trodAll_cons r1
  obtain ⟨rfl, rfl, rfl⟩ := trodAll_nil r2
  obtain rfl : args = #[v0, v1, v2] := by cases args; simp_all
  obtain ⟨rfl, rfl⟩ := trodVars_none hV
  have hok0 := hval 0 24 v0 rfl rfl
  have hok1 := hval 1 24 v1 rfl rfl
  have hok2 := hval 2 25 v2 rfl rfl
  obtain ⟨b0, xo0, nx0, xc0, ps0, rfl, hps0, hn0, hm0, hb0, hx0⟩ := kopen_table hok0 h0
  obtain ⟨b1, xo1, nx1, xc1, ps1, rfl, hps1, hn1, hm1, hb1, hx1⟩ := kopen_table hok1 h1
  obtain ⟨co2, n2, cc2, os2, rfl, hrow2, hno2, hI2, hd2⟩ := open_opks hok2 h2
  clear hA0
  simp only [List.append_nil] at hW' hk
  have hbk : Rows.uptoBulkAll [d0, d1, d2] ≤ 1048576 := of_decide_eq_true hk
  have hs2 : n2 ≤ 1048576 := gbulk_mem (d := d2) (by simp) hd2 hbk
  have hlt0 : ∀ x ∈ p0, x.block < W.heap.size := fun x hx => hW'.lt x (by simp [hx])
  have hlt1 : ∀ x ∈ p1, x.block < W.heap.size := fun x hx => hW'.lt x (by simp [hx])
  have hlt2 : ∀ x ∈ p2, x.block < W.heap.size := fun x hx => hW'.lt x (by simp [hx])
  refine (kept_any b0 ps0 xo0 nx0 xc0 b1 ps1 xo1 nx1 xc1 os2 co2 n2 cc2 W hps0 hn0 hm0 hb0 hx0 hps1 hn1 hm1 hb1 hx1 hrow2 hno2 (fun x hx => (hI2 x hx).2.2) (by omega)).mono fun e W' ⟨he, hb⟩ => ?_
  subst he
  refine ⟨_, rfl, _, _, _, [], p0 ++ (p1 ++ (p2 ++ [])), [], hW', ?_, ?_, rfl, hb.frame _, fun h => by cases h⟩
  · exact trodAll_cons_mk (shut_bool Tryz.underlying4 _) trodAll_mk0
  · exact trodAll_cons_mk (Below.trod laidOutG (by kernel_rfl) (of_decide_eq_true (by kernel_rfl)) h0 hb hlt0) (trodAll_cons_mk (Below.trod laidOutG (by kernel_rfl) (of_decide_eq_true (by kernel_rfl)) h1 hb hlt1) (trodAll_cons_mk (Below.trod laidOutG (by kernel_rfl) (of_decide_eq_true (by kernel_rfl)) h2 hb hlt2) trodAll_mk0))
set_option maxRecDepth 100000 in
theorem kept_lifted (os : Os) (started : os.Started) (H : Type) (enc : TypeId × Value → H) (F : Stop.Interp) :
    ReturnsInHanded {} Tryz.checked os 4 .any ((Rows.OpenSpec.upto Rows.keptSpec).pre6 enc Tryz.prog Tryz.f4 Rows.keptUptoRow.domain false) (((Rows.OpenSpec.upto Rows.keptSpec).at F).post enc Tryz.prog Tryz.f4 false true false false) := by
  refine returnsInHanded_of_cond (C := Tryz.checked) (s := Rows.OpenSpec.upto Rows.keptSpec) (k := Rows.uptoSmall) rfl ownG started (by kernel_rfl) Tryz.func4
    (OpenSpec.witness (enc := enc) (C := Tryz.checked) (s := Rows.OpenSpec.upto Rows.keptSpec) (k := Rows.uptoSmall) rfl false ⟨#[], #[.agg #[.int .i64 0, .slice none 0 0], .agg #[.int .i64 0, .slice none 0 0], .slice none 0 0], []⟩ 8 (by kernel_rfl) (by kernel_rfl) (by kernel_rfl)
      (x := ([.agg [.lit (.int .i64 0), .nil], .agg [.lit (.int .i64 0), .nil], .nil], [], [])) (by kernel_rfl) rfl (by kernel_rfl)) ?_
  intro W base args ds gs before hval hW _ hk _
  exact kept_contract H enc W base args ds gs before hval hW hk
end Lw
theorem kept_upto_said : Rows.KeptUptoSaid :=
  OpenClaim.holds_of_cond 4 Tryz.f4 rfl rfl rfl rfl rfl rfl rfl ⟨rfl, rfl, rfl, rfl, rfl⟩ rfl rfl rfl rfl rfl (by kernel_rfl) Tryz.func4 (by kernel_rfl)
    (of_decide_eq_true (by kernel_rfl)) (by unfold Func.isWrapper; first | (rw [if_pos (by decide +kernel)]; kernel_rfl) | (rw [if_neg (by decide +kernel)]; exact ⟨rfl, rfl⟩))
    (fun os started H enc _ F => Lw.kept_lifted os started H enc F)
#print axioms kept_upto_said
end Go.Proofs.YtohbonfngeblkaaGreat
