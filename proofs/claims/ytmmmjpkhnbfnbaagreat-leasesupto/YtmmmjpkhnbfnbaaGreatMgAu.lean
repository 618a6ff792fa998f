import Derived.Test.YtmmmjpkhnbfnbaaGreatMgAt
import Derived.Test.YtmmmjpkhnbfnbaaGreatMgAd
namespace Go.Proofs.YtmmmjpkhnbfnbaaGreat
open Go.RowKit
namespace Lw
open Co

theorem idx_isSome {α : Type} (p : α → Bool) (l : List α) : (l.findIdx? p).isSome = (l.find? p).isSome := by
  cases h : l.findIdx? p with
  | none => rw [(find_idx p l).2 h]; rfl
  | some k =>
    obtain ⟨x, _, h2⟩ := (find_idx p l).1 k h
    rw [h2]; rfl
theorem asked_link (S : Sta) (nx c : Int) (nm : ByteArray) : rAsked S nx c nm = (stW (joined S c nm) (servedR S.bud S.pools (S.wts.length + 1) S.srv (S.wts ++ [(⟨c, nm⟩ : Wtr)]) nx).1 (servedR S.bud S.pools (S.wts.length + 1) S.srv (S.wts ++ [(⟨c, nm⟩ : Wtr)]) nx).2.1, (servedR S.bud S.pools (S.wts.length + 1) S.srv (S.wts ++ [(⟨c, nm⟩ : Wtr)]) nx).2.2) :=
  served_link (S.wts.length + 1) (joined S c nm) nx
theorem askW_link {w w' : World} {inp : Value} {S : Sta} {nx hb : Int} {hs : List Pl} {c : Int} {nm : ByteArray} {e : Ending} (h : AskW w w' inp S.bud S.pools S.srv S.wts S.plan S.begun S.back nx hb hs c nm e) :
    ((rAsk S nx c nm).S = S ∧ (rAsk S nx c nm).op = nx ∧ e = .returned (.tuple #[inp, .int .i64 (rAsk S nx c nm).id, .int .i64 ((rAsk S nx c nm).err : Int)]) ∧ Below w.heap.size w w')
    ∨ (Rest S (rAsk S nx c nm).S ∧ ∃ v, e = .returned (.tuple #[v, .int .i64 (rAsk S nx c nm).id, .int .i64 ((rAsk S nx c nm).err : Int)]) ∧ GaveO w.heap.size w w' S.bud S.pools (rAsk S nx c nm).S.srv (rAsk S nx c nm).S.wts S.plan S.begun S.back (rAsk S nx c nm).op hb hs (.returned v)) := by
  unfold AskW at h
  by_cases hc : 1 ≤ c ∧ c ≤ 99
  · rw [if_pos hc, idx_isSome, idx_isSome] at h
    have hk : ¬ okCli c = false := by rw [okCli_link]; simp [hc]
    by_cases hb' : ((S.srv.find? (isCliV c)).isSome || (S.wts.find? (isCliW c)).isSome) = true
    · rw [if_pos hb'] at h
      have hr : rAsk S nx c nm = ⟨S, nx, 0, 11⟩ := by unfold rAsk; rw [if_neg hk, if_pos hb']
      rw [hr]
      exact .inl ⟨rfl, rfl, h.1, h.2⟩
    · rw [if_neg hb'] at h
      cases hf : S.pools.find? (isNameP nm) with
      | none =>
        rw [hf] at h
        have hr : rAsk S nx c nm = ⟨S, nx, 0, 12⟩ := by unfold rAsk; rw [if_neg hk, if_neg hb', hf]
        rw [hr]
        exact .inl ⟨rfl, rfl, h.1, h.2⟩
      | some x =>
        rw [hf] at h
        simp only at h
        have hA := asked_link S nx c nm
        obtain ⟨Z, hZ⟩ : ∃ Z, servedR S.bud S.pools (S.wts.length + 1) S.srv (S.wts ++ [(⟨c, nm⟩ : Wtr)]) nx = Z := ⟨_, rfl⟩
        rw [hZ] at h hA
        cases hs1 : Z.1.find? (isCliV c) with
        | some s =>
          rw [hs1] at h
          have hr : rAsk S nx c nm = ⟨stW (joined S c nm) Z.1 Z.2.1, Z.2.2, s.id, 0⟩ := by
            unfold rAsk
            rw [if_neg hk, if_neg hb', hf]
            simp only
            rw [hA]
            simp only [stW]
            rw [hs1]
          rw [hr]
          exact .inr ⟨⟨rfl, rfl, rfl, rfl, rfl⟩, h⟩
        | none =>
          rw [hs1] at h
          simp only at h
          by_cases hw : x.wt < (cntG (isPoolW nm) Z.2.1 : Int)
          · rw [if_pos hw] at h
            have hr : rAsk S nx c nm = ⟨S, nx, 0, 13⟩ := by
              unfold rAsk
              rw [if_neg hk, if_neg hb', hf]
              simp only
              rw [hA]
              simp only [stW]
              rw [hs1]
              simp only
              exact if_pos hw
            rw [hr]
            exact .inl ⟨rfl, rfl, h.1, h.2⟩
          · rw [if_neg hw] at h
            have hr : rAsk S nx c nm = ⟨stW (joined S c nm) Z.1 Z.2.1, Z.2.2, 0, 0⟩ := by
              unfold rAsk
              rw [if_neg hk, if_neg hb', hf]
              simp only
              rw [hA]
              simp only [stW]
              rw [hs1]
              simp only
              exact if_neg hw
            rw [hr]
            exact .inr ⟨⟨rfl, rfl, rfl, rfl, rfl⟩, h⟩
  · rw [if_neg hc] at h
    have hr : rAsk S nx c nm = ⟨S, nx, 0, 10⟩ := by unfold rAsk; rw [if_pos (by rw [okCli_link]; exact decide_eq_false hc)]
    rw [hr]
    exact .inl ⟨rfl, rfl, h.1, h.2⟩
theorem refAsk (c : Int) (nm : ByteArray) (S : Sta) (op : Int) (Y : Int × List Pl) (u : Stv) (ho : Option Addr) (hc : Nat) (w : World) (h : WdAt w S u Y ho hc) (hk : RefOk S op Y) :
    Calls Tryz.prog 35 #[wdA S u (op + 1) Y ho hc, .int .i64 c, .string nm] w fun e w' => ∃ u' ho' hc', e = .returned (.tuple #[wdA (rAsk S (op + 1) c nm).S u' (rAsk S (op + 1) c nm).op Y ho' hc', .int .i64 (rAsk S (op + 1) c nm).id, .int .i64 ((rAsk S (op + 1) c nm).err : Int)]) ∧ RefG w w' S u Y ho hc (rAsk S (op + 1) c nm).S u' Y ho' hc' := by
  obtain ⟨k1, k2, k3, k4, k5⟩ := hk.num
  have k6 := hk.pools
  have k7 := hk.plan
  have k8 := hk.home
  refine (ask_any S.bud u.po _ u.pc u.so _ u.sc u.wo _ u.wc u.to _ u.tc S.begun S.back (op + 1) Y.1 ho _ hc S.pools S.srv S.wts S.plan Y.2 w c nm h.sta.p rfl (by omega) h.sta.s rfl (by omega) h.sta.t rfl (by omega) h.sta.l rfl (by omega) h.hom rfl (by omega) (by omega) (by omega) (by omega)).mono ?_
  intro e w' hl
  rcases askW_link (S := S) hl with ⟨h2, h3, h4, h5⟩ | ⟨⟨s2, s1, s3, s4, s5⟩, v, h2, h3⟩
  · exact ⟨u, ho, hc, by rw [h2, h3]; exact h4, by rw [h2]; exact RefG.same h h5⟩
  · obtain ⟨u', ho', hc', hv, hg⟩ := RefG.gave (u := u) (S := S) (Y := Y) (ho := ho) (hc := hc) (Z := Y) (T := (rAsk S (op + 1) c nm).S) (by rw [s1, s2, s3, s4, s5]; exact h3)
    exact ⟨u', ho', hc', by rw [h2, hv], hg⟩
set_option maxRecDepth 20000 in
set_option maxHeartbeats 16000000 in
theorem lease1 (gx gp go : Nat) (S : Sta) (X : Aux) (Y : Int × List Pl) (Fp F : Nat → Prop) (u : Stv) (ho : Option Addr) (hc : Nat) (q1 q2 q4 : Nat) (w : World) (A B : Int) (s : ByteArray) (h : Run w gx gp go S X S (X.op + 1) Y Fp F u ho hc q1 q2 q4) (hk : RefOk S X.op Y) (hst : Still S X.op) :
    Calls Tryz.prog 14 #[.pointer (some ⟨gx, 0, none⟩), .agg #[.int .i64 1, .int .i64 A, .int .i64 B, .string s]] w fun e w' => LeaseG (cAsk S X.op A s) gx gp go Y Fp F q1 q2 q4 X w w' e := by
  obtain ⟨hsame, _, _⟩ := (ask_eq hk.ok.inv hst A s)
  obtain ⟨W0, hW0⟩ : ∃ W0, W0 = w.alloc (bOp 1 A B s) := ⟨_, rfl⟩
  have hbW : Below w.heap.size w W0 := by rw [hW0]; exact nx_alloc _ _
  have K0 : Hid (W0 = w.alloc (bOp 1 A B s) ∧ W0.heap[w.heap.size]? = some (bOp 1 A B s) ∧ Below w.heap.size w W0) := ⟨hW0, by rw [hW0]; exact heap_alloc_at _ _ rfl, hbW⟩
  have HR0 := hideIt (h.below hbW)
  have hd : ∀ u2, Below W0.heap.size W0 u2 → DeskAt u2 gp S X Fp := fun u2 hu => (h.below (nx_trans hbW hu)).desk
  obtain ⟨⟨D, t, id, er⟩, hcr⟩ : ∃ r, (cAsk S X.op A s) = r := ⟨_, rfl⟩
  have hrr : (rAsk S (X.op + 1) A s).S = D ∧ (rAsk S (X.op + 1) A s).op = t + 1 ∧ (rAsk S (X.op + 1) A s).id = id ∧ (rAsk S (X.op + 1) A s).err = er := by
    obtain ⟨s1, s2, s3, s4⟩ := hsame
    rw [hcr] at s1 s2 s3 s4
    exact ⟨s1.symm, s2.symm, s3.symm, s4.symm⟩
  have HPC : Hid (∀ u2, Below W0.heap.size W0 u2 → Calls Tryz.prog 34 #[.pointer (some ⟨gp, 0, none⟩), .int .i64 A, .string s] u2 fun e w' => e = .returned (.tuple #[.int .i64 id, .int .i64 (er : Int)]) ∧ Moved u2 w' gp D { X with op := t } Fp) := by
    intro u2 hu
    have := pAsk gp A s S X Fp u2 (hd u2 hu) hk.ok hk.pot1
    rw [hcr] at this
    exact this
  have HRC : Hid (∀ v, WdAt v S u Y ho hc → Calls Tryz.prog 35 #[wdA S u (X.op + 1) Y ho hc, .int .i64 A, .string s] v fun e w' => ∃ u' ho' hc', e = .returned (.tuple #[wdA D u' (t + 1) Y ho' hc', .int .i64 id, .int .i64 (er : Int)]) ∧ RefG v w' S u Y ho hc D u' Y ho' hc') := by
    intro v hv
    have := refAsk A s S X.op Y u ho hc v hv hk
    rw [hrr.1, hrr.2.1, hrr.2.2.1, hrr.2.2.2] at this
    exact this
  have HCR := hideIt hcr
  have HNF : Hid (¬ Fp gx ∧ ¬ Fp w.heap.size) := ⟨h.dxp, fun hf => by have := h.desk.lt _ hf; omega⟩
  clear h hk hst hsame hW0 hbW hd hcr hrr
  obtain ⟨x0, x1, x2, x3, x4, x5, x6, x7, x8, x9, x10⟩ := blk11f HR0.out.pr
  obtain ⟨b0, b1, b2, b3⟩ := blk4f K0.out.2.1
  have hgx0 := HR0.out.lt
  have hw0 : w.heap.size < W0.heap.size := (Array.getElem?_eq_some_iff.1 K0.out.2.1).1
  go_enter Tryz.func14, Tryz.ntmps14
  go_upto_region 3 with fail
  rw [← K0.out.1]
  go_cut [5, 6] (fun v1 v wx => v1 = .int .i64 id ∧ v = .int .i64 (er : Int) ∧ ∃ wy, Hid (Moved W0 wy gp D { X with op := t } Fp) ∧ wy = wx)
  case first =>
    go_region_held3 (fun w' => w'.cell? ⟨gx, 0, none⟩ = some (.pointer (some ⟨gp, 0, none⟩)) ∧ w'.cell? ⟨w.heap.size, 1, none⟩ = some (.int .i64 A) ∧ w'.cell? ⟨w.heap.size, 3, none⟩ = some (.string s)) (go_keep)
      ((go_at_call 34; refine (HPC.out _ ((Below.refl _ _).drew)).mono ?_; rintro e w2 ⟨rfl, hm2⟩; have HM2 : Hid (Moved W0 w2 gp D { X with op := t } Fp) := Moved.after (Below.refl _ _).drew hm2; have HX2 : Hid (w2.heap[gx]? = W0.heap[gx]?) := moved_block HM2.out hgx0 HNF.out.1; have HO2 : Hid (w2.heap[w.heap.size]? = W0.heap[w.heap.size]?) := moved_block HM2.out hw0 HNF.out.2; have q1 := (World.cell?_of_block (a := ⟨gx, 0, none⟩) HX2.out).trans x0; have q2 := (World.cell?_of_block (a := ⟨w.heap.size, 1, none⟩) HO2.out).trans b1; have q3 := (World.cell?_of_block (a := ⟨w.heap.size, 3, none⟩) HO2.out).trans b3; clear hm2))
    all_goals
      go_wp2_with fail
      go_meet
      exact ⟨rfl, rfl, _, HM2.out, rfl⟩
  case rest =>
    obtain ⟨rfl, rfl, wy, HMV, rfl⟩ := hcut
    obtain ⟨Fp1, hr1, hF1⟩ := HR0.out.moved HMV.out
    have HR1 := hideIt hr1
    have HF1 : Hid (∀ y, Fp1 y → Fp y ∨ w.heap.size ≤ y) := fun y hy => (hF1 y hy).imp (fun x => x) (fun x => Nat.le_trans K0.out.2.2.size x)
    have HY1 : Hid (wy.heap[w.heap.size]? = some (bOp 1 A B s)) := (moved_block HMV.out hw0 HNF.out.2).trans K0.out.2.1
    clear x0 x1 x2 x3 x4 x5 x6 x7 x8 x9 x10 b0 b1 b2 b3 hr1 hF1
    obtain ⟨x0, x1, x2, x3, x4, x5, x6, x7, x8, x9, x10⟩ := blk11f HR1.out.pr
    obtain ⟨b0, b1, b2, b3⟩ := blk4f HY1.out
    have hgy := HR1.out.lt
    have hwy : w.heap.size < wy.heap.size := (Array.getElem?_eq_some_iff.1 HY1.out).1
    have n1 := World.new_ne wy _ x1
    have n2 := World.new_ne wy _ x2
    have n3 := World.new_ne wy _ x3
    have n4 := World.new_ne wy _ x4
    have n5 := World.new_ne wy _ x5
    have n6 := World.new_ne wy _ x6
    have n7 := World.new_ne wy _ x7
    have n8 := World.new_ne wy _ x8
    have n9 := World.new_ne wy _ x9
    have n10 := World.new_ne wy _ x10
    have n11 := World.new_ne wy _ b1
    have n12 := World.new_ne wy _ b3
    have HRD := hideIt (fun v (hv : Below wy.heap.size wy v) => HRC.out v (HR1.out.ref.nx hv))
    simp only [wdA] at HRD
    go_upto_region 4 with fail
    go_cut [7, 8, 9] (fun p v1 v wx => v1 = .int .i64 id ∧ v = .int .i64 (er : Int) ∧ ∃ (g : Nat) (u' : Stv) (ho' : Option Addr) (hc' : Nat) (wz : World), p = .pointer (some ⟨g, 0, none⟩) ∧ Hid (BoxW wy S u Y ho hc D u' (t + 1) ho' hc' g wz) ∧ wz = wx)
    case first =>
      go_region_held3 (fun w' => w'.cell? ⟨gx, 1, none⟩ = some (.int .i64 S.bud) ∧ w'.cell? ⟨gx, 2, none⟩ = some (.slice u.po S.pools.length u.pc) ∧ w'.cell? ⟨gx, 3, none⟩ = some (.slice u.so S.srv.length u.sc) ∧ w'.cell? ⟨gx, 4, none⟩ = some (.slice u.wo S.wts.length u.wc) ∧ w'.cell? ⟨gx, 5, none⟩ = some (.slice u.to S.plan.length u.tc) ∧ w'.cell? ⟨gx, 6, none⟩ = some (.bool S.begun) ∧ w'.cell? ⟨gx, 7, none⟩ = some (.bool S.back) ∧ w'.cell? ⟨gx, 8, none⟩ = some (.int .i64 (X.op + 1)) ∧ w'.cell? ⟨gx, 9, none⟩ = some (.int .i64 Y.1) ∧ w'.cell? ⟨gx, 10, none⟩ = some (.slice ho Y.2.length hc) ∧ w'.cell? ⟨w.heap.size, 1, none⟩ = some (.int .i64 A) ∧ w'.cell? ⟨w.heap.size, 3, none⟩ = some (.string s)) (go_keep)
        ((go_at_call 35; refine (HRD.out _ (by first | exact (Below.refl _ _).drew | exact (Below.refl _ _).drew.alloc (Nat.le_refl _) _)).mono ?_; rintro e w5 ⟨u', ho', hc', rfl, hg5⟩; have HG5 : Hid (RefG wy w5 S u Y ho hc D u' Y ho' hc') := (by first | exact refg_after (Below.refl _ _).drew hg5 | exact refg_after ((Below.refl _ _).drew.alloc (Nat.le_refl _) _) hg5); have HB5 := hideIt HG5.out.bel; (first | (have HG6 : Hid (RefG (wy.drew.alloc zW) w5 S u Y ho hc D u' Y ho' hc') := hg5) | skip); have k1 := (HB5.out.cell (p := ⟨gx, 1, none⟩) hgy).trans x1; have k2 := (HB5.out.cell (p := ⟨gx, 2, none⟩) hgy).trans x2; have k3 := (HB5.out.cell (p := ⟨gx, 3, none⟩) hgy).trans x3; have k4 := (HB5.out.cell (p := ⟨gx, 4, none⟩) hgy).trans x4; have k5 := (HB5.out.cell (p := ⟨gx, 5, none⟩) hgy).trans x5; have k6 := (HB5.out.cell (p := ⟨gx, 6, none⟩) hgy).trans x6; have k7 := (HB5.out.cell (p := ⟨gx, 7, none⟩) hgy).trans x7; have k8 := (HB5.out.cell (p := ⟨gx, 8, none⟩) hgy).trans x8; have k9 := (HB5.out.cell (p := ⟨gx, 9, none⟩) hgy).trans x9; have k10 := (HB5.out.cell (p := ⟨gx, 10, none⟩) hgy).trans x10; have k11 := (HB5.out.cell (p := ⟨w.heap.size, 1, none⟩) hwy).trans b1; have k12 := (HB5.out.cell (p := ⟨w.heap.size, 3, none⟩) hwy).trans b3; have l1 := World.new_ne w5 _ k1; have l2 := World.new_ne w5 _ k2; have l3 := World.new_ne w5 _ k3; have l4 := World.new_ne w5 _ k4; have l5 := World.new_ne w5 _ k5; have l6 := World.new_ne w5 _ k6; have l7 := World.new_ne w5 _ k7; have l8 := World.new_ne w5 _ k8; have l9 := World.new_ne w5 _ k9; have l10 := World.new_ne w5 _ k10; have l11 := World.new_ne w5 _ k11; have l12 := World.new_ne w5 _ k12; (first | (have HBZ : Hid (w5.heap[wy.heap.size]? = some zW) := (hg5.bel.block wy.heap.size (by simp)).trans (heap_alloc_at wy.drew zW rfl); obtain ⟨m0, m1, m2, m3, m4, m5, m6, m7, m8, m9, mz⟩ := blk10 HBZ.out) | skip); clear hg5))
      all_goals
        go_wp2_with fail
        go_meet
        first
        | exact ⟨rfl, rfl, _, u', ho', hc', _, rfl, boxw_a HG5.out, rfl⟩
        | exact ⟨rfl, rfl, _, u', ho', hc', _, rfl, boxw_b HG6.out HBZ.out HR1.out.ref.lt, rfl⟩
    case rest =>
      obtain ⟨rfl, rfl, g, u', ho', hc', wz, rfl, HBX, rfl⟩ := hcut
      have HR2 := hideIt (HBX.out.take HR1.out)
      have HCZ : Hid (Chg (fun y => Fp y ∨ y = gx) w wz) := by
        obtain ⟨_, _, _, hc2⟩ := HMV.out
        exact ((Chg.of_below K0.out.2.2).trans (hc2.mono (fun y hy => (.inl hy : Fp y ∨ y = gx))) (fun x hx => .inl hx)).trans (Chg.of_below (F := fun y => Fp y ∨ y = gx) HBX.out.bel) (fun x hx => .inl hx)
      clear x0 x1 x2 x3 x4 x5 x6 x7 x8 x9 x10 b0 b1 b2 b3 n1 n2 n3 n4 n5 n6 n7 n8 n9 n10 n11 n12 hgy hwy
      obtain ⟨m0, m1, m2, m3, m4, m5, m6, m7, m8, m9, mz⟩ := blk10 HBX.out.box
      have hpz : wz.heap[gx]? = some (bPair (.pointer (some ⟨gp, 0, none⟩)) S.bud (.slice u.po S.pools.length u.pc) (.slice u.so S.srv.length u.sc) (.slice u.wo S.wts.length u.wc) (.slice u.to S.plan.length u.tc) S.begun S.back (X.op + 1) Y.1 (.slice ho Y.2.length hc)) := (HBX.out.bel.block gx HR1.out.lt).trans HR1.out.pr
      obtain ⟨x0, x1, x2, x3, x4, x5, x6, x7, x8, x9, x10⟩ := blk11f hpz
      have xz := blk11z hpz
      have hgne : g ≠ gx := by have h1 := HBX.out.new; have h2 := HR1.out.lt; omega
      clear hpz
      go_wp2_with fail
      go_ret
      rw [HCR.out]
      exact ⟨by simp, ⟨_, _, _, _, HR2.out, HF1.out⟩, HCZ.out.trans (stw_chg _ _ _ _ _ _ _ _ _ _ _ _) (fun x hx => .inl (.inr hx))⟩
end Lw
end Go.Proofs.YtmmmjpkhnbfnbaaGreat
namespace Go.Proofs.YtmmmjpkhnbfnbaaGreat
open Go.RowKit
namespace Lw
open Co

theorem pot_le {S : Sta} {op : Int} {T : Sta} {t : Int} (h1 : t ≤ op) (h2 : T.wts.length ≤ S.wts.length) : pot (T, t) ≤ pot (S, op) := by
  unfold pot
  simp only
  omega
theorem ask_pot (S : Sta) (op c : Int) (nm : ByteArray) : pot ((cAsk S op c nm).S, (cAsk S op c nm).op) ≤ pot (S, op) + 1 ∧ Rest S (cAsk S op c nm).S := by
  have h0 : pot (S, op) ≤ pot (S, op) + 1 := by omega
  have hq : ∀ (T : Sta) (t : Int), pot (cQuit T c, t) ≤ pot (T, t) := fun T t => pot_le (Int.le_refl _) (List.length_filter_le _ _)
  unfold cAsk
  split
  · exact ⟨h0, Rest.refl _⟩
  · split
    · exact ⟨h0, Rest.refl _⟩
    · split
      · exact ⟨h0, Rest.refl _⟩
      · rename_i x _
        have h1 := serve_pot (S.wts.length + 1) (joined S c x.nm) op
        have h2 : pot (joined S c x.nm, op) = pot (S, op) + 1 := by unfold pot joined; simp; omega
        have h3 : pot (cAsked S op c x.nm) ≤ pot (S, op) + 1 := by rw [← h2]; exact h1.1
        have h4 : Rest S (cAsked S op c x.nm).1 := Rest.trans (T := joined S c x.nm) ⟨rfl, rfl, rfl, rfl, rfl⟩ h1.2.2
        split
        · exact ⟨h3, h4⟩
        · split
          · exact ⟨Int.le_trans (hq _ _) h3, h4.trans ⟨rfl, rfl, rfl, rfl, rfl⟩⟩
          · exact ⟨h3, h4⟩
theorem leave_pot (S : Sta) (op c : Int) : pot ((cLeave S op c).S, (cLeave S op c).op) ≤ pot (S, op) + 1 ∧ Rest S (cLeave S op c).S := by
  unfold cLeave
  split
  · exact ⟨by simp only; omega, Rest.refl _⟩
  · split
    · exact ⟨by simp only; omega, Rest.refl _⟩
    · have : pot (cQuit S c, op) ≤ pot (S, op) := pot_le (Int.le_refl _) (List.length_filter_le _ _)
      exact ⟨by simp only; omega, ⟨rfl, rfl, rfl, rfl, rfl⟩⟩
theorem crash_pot (S : Sta) (op c : Int) : pot ((cCrash S op c).S, (cCrash S op c).op) ≤ pot (S, op) + 1 ∧ Rest S (cCrash S op c).S := by
  unfold cCrash
  split
  · exact ⟨by simp only; omega, Rest.refl _⟩
  · have h1 := serve_pot S.wts.length (cShut S c) op
    have h2 : pot (cShut S c, op) = pot (S, op) := rfl
    exact ⟨by have := h1.1; rw [h2] at this; simp only; exact Int.le_trans this (by omega), Rest.trans (T := cShut S c) ⟨rfl, rfl, rfl, rfl, rfl⟩ h1.2.2⟩
theorem done_pot (S : Sta) (op c : Int) : pot ((cDone S op c).S, (cDone S op c).op) ≤ pot (S, op) + 1 ∧ Rest S (cDone S op c).S := by
  unfold cDone
  split
  · exact ⟨by simp only; omega, Rest.refl _⟩
  · split
    · exact ⟨by simp only; omega, Rest.refl _⟩
    · rename_i s _
      simp only
      obtain ⟨T, hT⟩ : ∃ T, (if isSur (cHand S s.id 0) s = true then cShut (cHand S s.id 0) s.id else cHand S s.id 0) = T := ⟨_, rfl⟩
      rw [hT]
      have h3 : pot (T, op) = pot (S, op) ∧ Rest S T := by
        rw [← hT]
        split <;> exact ⟨rfl, rfl, rfl, rfl, rfl, rfl⟩
      have h1 := serve_pot S.wts.length T op
      exact ⟨by have := h1.1; rw [h3.1] at this; exact Int.le_trans this (by omega), h3.2.trans h1.2.2⟩
/-- what play answers -/
def PlayG (gx gp go : Nat) (S : Sta) (X : Aux) (Y : Int × List Pl) (Fp F : Nat → Prop) (q1 q2 q4 : Nat) (w w' : World) (e : Ending) : Prop :=
  e = .returned (.bool true) ∧ ∃ D X' Fp' u' ho' hc', Run w' gx gp go D X' D (X'.op + 1) Y Fp' F u' ho' hc' q1 q2 q4 ∧ (∀ y, Fp' y → Fp y ∨ w.heap.size ≤ y) ∧ Chg (fun y => Fp y ∨ y = gx) w w' ∧ Inv D X'.op ∧ Still D X'.op ∧ pot (D, X'.op) ≤ pot (S, X.op) + 1 ∧ Rest S D
theorem playG_of {r : Res} {gx gp go : Nat} {S : Sta} {X : Aux} {Y : Int × List Pl} {Fp F : Nat → Prop} {q1 q2 q4 : Nat} {w W0 w' : World} {e : Ending} (hb : Below w.heap.size w W0) (h : LeaseG r gx gp go Y Fp F q1 q2 q4 X W0 w' e) (hi : Inv r.S r.op) (hs : Still r.S r.op) (hp : pot (r.S, r.op) ≤ pot (S, X.op) + 1) (hr : Rest S r.S) : PlayG gx gp go S X Y Fp F q1 q2 q4 w w' e := by
  obtain ⟨he, ⟨Fp', u', ho', hc', hrun, hF⟩, hch⟩ := h
  exact ⟨he, r.S, { X with op := r.op }, Fp', u', ho', hc', hrun, fun y hy => (hF y hy).imp (fun x => x) (fun x => Nat.le_trans hb.size x), (Chg.of_below hb).trans hch (fun x hx => .inl hx), hi, hs, hp, hr⟩

set_option maxRecDepth 20000 in
set_option maxHeartbeats 2000000 in
theorem play1 (gx gp go : Nat) (S : Sta) (X : Aux) (Y : Int × List Pl) (Fp F : Nat → Prop) (u : Stv) (ho : Option Addr) (hc : Nat) (q1 q2 q4 : Nat) (w : World) (A B : Int) (s : ByteArray) (h : Run w gx gp go S X S (X.op + 1) Y Fp F u ho hc q1 q2 q4) (hk : RefOk S X.op Y) (hst : Still S X.op) :
    Calls Tryz.prog 7 #[.pointer (some ⟨gx, 0, none⟩), .agg #[.int .i64 1, .int .i64 A, .int .i64 B, .string s]] w fun e w' => PlayG gx gp go S X Y Fp F q1 q2 q4 w w' e := by
  obtain ⟨W0, hW0⟩ : ∃ W0, W0 = w.alloc (bOp 1 A B s) := ⟨_, rfl⟩
  have hbW : Below w.heap.size w W0 := by rw [hW0]; exact nx_alloc _ _
  have K0 : Hid (W0 = w.alloc (bOp 1 A B s) ∧ W0.heap[w.heap.size]? = some (bOp 1 A B s) ∧ Below w.heap.size w W0) := ⟨hW0, by rw [hW0]; exact heap_alloc_at _ _ rfl, hbW⟩
  have HL := hideIt (lease1 gx gp go S X Y Fp F u ho hc q1 q2 q4 W0 A B s (h.below hbW) hk hst)
  have HE := hideIt (And.intro (ask_eq hk.ok.inv hst A s).2 (ask_pot S X.op A s))
  clear h hk hst hW0 hbW
  go_enter Tryz.func7, Tryz.ntmps7
  go_upto_region 1 with fail
  rw [← K0.out.1]
  obtain ⟨b0, b1, b2, b3⟩ := blk4f K0.out.2.1
  go_wp2_with fail
  refine HL.out.mono ?_
  intro e w1 hg
  have HG := hideIt (playG_of K0.out.2.2 hg HE.out.1.1 HE.out.1.2 HE.out.2.1 HE.out.2.2)
  obtain rfl := hg.1
  clear hg b0 b1 b2 b3
  go_wp2_with fail
  go_ret
  exact HG.out

set_option maxRecDepth 20000 in
set_option maxHeartbeats 2000000 in
theorem play2 (gx gp go : Nat) (S : Sta) (X : Aux) (Y : Int × List Pl) (Fp F : Nat → Prop) (u : Stv) (ho : Option Addr) (hc : Nat) (q1 q2 q4 : Nat) (w : World) (A B : Int) (s : ByteArray) (h : Run w gx gp go S X S (X.op + 1) Y Fp F u ho hc q1 q2 q4) (hk : RefOk S X.op Y) (hst : Still S X.op) :
    Calls Tryz.prog 7 #[.pointer (some ⟨gx, 0, none⟩), .agg #[.int .i64 2, .int .i64 A, .int .i64 B, .string s]] w fun e w' => PlayG gx gp go S X Y Fp F q1 q2 q4 w w' e := by
  obtain ⟨W0, hW0⟩ : ∃ W0, W0 = w.alloc (bOp 2 A B s) := ⟨_, rfl⟩
  have hbW : Below w.heap.size w W0 := by rw [hW0]; exact nx_alloc _ _
  have K0 : Hid (W0 = w.alloc (bOp 2 A B s) ∧ W0.heap[w.heap.size]? = some (bOp 2 A B s) ∧ Below w.heap.size w W0) := ⟨hW0, by rw [hW0]; exact heap_alloc_at _ _ rfl, hbW⟩
  have HL := hideIt (lease2 gx gp go S X Y Fp F u ho hc q1 q2 q4 W0 A B s (h.below hbW) hk hst)
  have HE := hideIt (And.intro (done_eq hk.ok.inv hst A).2 (done_pot S X.op A))
  clear h hk hst hW0 hbW
  go_enter Tryz.func7, Tryz.ntmps7
  go_upto_region 1 with fail
  rw [← K0.out.1]
  obtain ⟨b0, b1, b2, b3⟩ := blk4f K0.out.2.1
  go_wp2_with fail
  refine HL.out.mono ?_
  intro e w1 hg
  have HG := hideIt (playG_of K0.out.2.2 hg HE.out.1.1 HE.out.1.2 HE.out.2.1 HE.out.2.2)
  obtain rfl := hg.1
  clear hg b0 b1 b2 b3
  go_wp2_with fail
  go_ret
  exact HG.out

set_option maxRecDepth 20000 in
set_option maxHeartbeats 2000000 in
theorem play3 (gx gp go : Nat) (S : Sta) (X : Aux) (Y : Int × List Pl) (Fp F : Nat → Prop) (u : Stv) (ho : Option Addr) (hc : Nat) (q1 q2 q4 : Nat) (w : World) (A B : Int) (s : ByteArray) (h : Run w gx gp go S X S (X.op + 1) Y Fp F u ho hc q1 q2 q4) (hk : RefOk S X.op Y) (hst : Still S X.op) :
    Calls Tryz.prog 7 #[.pointer (some ⟨gx, 0, none⟩), .agg #[.int .i64 3, .int .i64 A, .int .i64 B, .string s]] w fun e w' => PlayG gx gp go S X Y Fp F q1 q2 q4 w w' e := by
  obtain ⟨W0, hW0⟩ : ∃ W0, W0 = w.alloc (bOp 3 A B s) := ⟨_, rfl⟩
  have hbW : Below w.heap.size w W0 := by rw [hW0]; exact nx_alloc _ _
  have K0 : Hid (W0 = w.alloc (bOp 3 A B s) ∧ W0.heap[w.heap.size]? = some (bOp 3 A B s) ∧ Below w.heap.size w W0) := ⟨hW0, by rw [hW0]; exact heap_alloc_at _ _ rfl, hbW⟩
  have HL := hideIt (lease3 gx gp go S X Y Fp F u ho hc q1 q2 q4 W0 A B s (h.below hbW) hk hst)
  have HE := hideIt (And.intro (leave_eq hk.ok.inv hst A).2 (leave_pot S X.op A))
  clear h hk hst hW0 hbW
  go_enter Tryz.func7, Tryz.ntmps7
  go_upto_region 1 with fail
  rw [← K0.out.1]
  obtain ⟨b0, b1, b2, b3⟩ := blk4f K0.out.2.1
  go_wp2_with fail
  refine HL.out.mono ?_
  intro e w1 hg
  have HG := hideIt (playG_of K0.out.2.2 hg HE.out.1.1 HE.out.1.2 HE.out.2.1 HE.out.2.2)
  obtain rfl := hg.1
  clear hg b0 b1 b2 b3
  go_wp2_with fail
  go_ret
  exact HG.out

set_option maxRecDepth 20000 in
set_option maxHeartbeats 2000000 in
theorem play4 (gx gp go : Nat) (S : Sta) (X : Aux) (Y : Int × List Pl) (Fp F : Nat → Prop) (u : Stv) (ho : Option Addr) (hc : Nat) (q1 q2 q4 : Nat) (w : World) (A B : Int) (s : ByteArray) (h : Run w gx gp go S X S (X.op + 1) Y Fp F u ho hc q1 q2 q4) (hk : RefOk S X.op Y) (hst : Still S X.op) :
    Calls Tryz.prog 7 #[.pointer (some ⟨gx, 0, none⟩), .agg #[.int .i64 4, .int .i64 A, .int .i64 B, .string s]] w fun e w' => PlayG gx gp go S X Y Fp F q1 q2 q4 w w' e := by
  obtain ⟨W0, hW0⟩ : ∃ W0, W0 = w.alloc (bOp 4 A B s) := ⟨_, rfl⟩
  have hbW : Below w.heap.size w W0 := by rw [hW0]; exact nx_alloc _ _
  have K0 : Hid (W0 = w.alloc (bOp 4 A B s) ∧ W0.heap[w.heap.size]? = some (bOp 4 A B s) ∧ Below w.heap.size w W0) := ⟨hW0, by rw [hW0]; exact heap_alloc_at _ _ rfl, hbW⟩
  have HL := hideIt (lease4 gx gp go S X Y Fp F u ho hc q1 q2 q4 W0 A B s (h.below hbW) hk hst)
  have HE := hideIt (And.intro (crash_eq hk.ok.inv hst A).2 (crash_pot S X.op A))
  clear h hk hst hW0 hbW
  go_enter Tryz.func7, Tryz.ntmps7
  go_upto_region 1 with fail
  rw [← K0.out.1]
  obtain ⟨b0, b1, b2, b3⟩ := blk4f K0.out.2.1
  go_wp2_with fail
  refine HL.out.mono ?_
  intro e w1 hg
  have HG := hideIt (playG_of K0.out.2.2 hg HE.out.1.1 HE.out.1.2 HE.out.2.1 HE.out.2.2)
  obtain rfl := hg.1
  clear hg b0 b1 b2 b3
  go_wp2_with fail
  go_ret
  exact HG.out

set_option maxRecDepth 20000 in
set_option maxHeartbeats 2000000 in
theorem play0 (gx gp go : Nat) (S : Sta) (X : Aux) (Y : Int × List Pl) (Fp F : Nat → Prop) (u : Stv) (ho : Option Addr) (hc : Nat) (q1 q2 q4 : Nat) (w : World) (kd A B : Int) (s : ByteArray) (h : Run w gx gp go S X S (X.op + 1) Y Fp F u ho hc q1 q2 q4) (hi : Inv S X.op) (hst : Still S X.op) (hkd : kd ≤ 0) :
    Calls Tryz.prog 7 #[.pointer (some ⟨gx, 0, none⟩), .agg #[.int .i64 kd, .int .i64 A, .int .i64 B, .string s]] w fun e w' => PlayG gx gp go S X Y Fp F q1 q2 q4 w w' e := by
  obtain ⟨W0, hW0⟩ : ∃ W0, W0 = w.alloc (bOp kd A B s) := ⟨_, rfl⟩
  have hbW : Below w.heap.size w W0 := by rw [hW0]; exact nx_alloc _ _
  have K0 : Hid (W0 = w.alloc (bOp kd A B s) ∧ W0.heap[w.heap.size]? = some (bOp kd A B s) ∧ Below w.heap.size w W0) := ⟨hW0, by rw [hW0]; exact heap_alloc_at _ _ rfl, hbW⟩
  have HG : Hid (PlayG gx gp go S X Y Fp F q1 q2 q4 w W0 (.returned (.bool true))) := ⟨rfl, S, X, Fp, u, ho, hc, h.below hbW, fun y hy => .inl hy, Chg.of_below hbW, hi, hst, by omega, Rest.refl _⟩
  have e1 : (kd == 1) = false := by rw [beq_eq_false_iff_ne]; omega
  have e2 : (kd == 2) = false := by rw [beq_eq_false_iff_ne]; omega
  have e3 : (kd == 3) = false := by rw [beq_eq_false_iff_ne]; omega
  have e4 : (kd == 4) = false := by rw [beq_eq_false_iff_ne]; omega
  have e5 : (kd == 5) = false := by rw [beq_eq_false_iff_ne]; omega
  have e6 : (kd == 6) = false := by rw [beq_eq_false_iff_ne]; omega
  have e7 : (kd == 7) = false := by rw [beq_eq_false_iff_ne]; omega
  clear h hi hst hW0 hbW hkd
  go_enter Tryz.func7, Tryz.ntmps7
  go_upto_region 1 with fail
  rw [← K0.out.1]
  obtain ⟨b0, b1, b2, b3⟩ := blk4f K0.out.2.1
  go_wp2_with fail
  go_ret
  exact HG.out
theorem play_lease (gx gp go : Nat) (S : Sta) (X : Aux) (Y : Int × List Pl) (Fp F : Nat → Prop) (u : Stv) (ho : Option Addr) (hc : Nat) (q1 q2 q4 : Nat) (w : World) (kd A B : Int) (s : ByteArray) (h : Run w gx gp go S X S (X.op + 1) Y Fp F u ho hc q1 q2 q4) (hk : RefOk S X.op Y) (hst : Still S X.op) (hkd : kd ≤ 4) :
    Calls Tryz.prog 7 #[.pointer (some ⟨gx, 0, none⟩), .agg #[.int .i64 kd, .int .i64 A, .int .i64 B, .string s]] w fun e w' => PlayG gx gp go S X Y Fp F q1 q2 q4 w w' e := by
  by_cases h1 : kd = 1
  · subst h1; exact play1 gx gp go S X Y Fp F u ho hc q1 q2 q4 w A B s h hk hst
  · by_cases h2 : kd = 2
    · subst h2; exact play2 gx gp go S X Y Fp F u ho hc q1 q2 q4 w A B s h hk hst
    · by_cases h3 : kd = 3
      · subst h3; exact play3 gx gp go S X Y Fp F u ho hc q1 q2 q4 w A B s h hk hst
      · by_cases h4 : kd = 4
        · subst h4; exact play4 gx gp go S X Y Fp F u ho hc q1 q2 q4 w A B s h hk hst
        · exact play0 gx gp go S X Y Fp F u ho hc q1 q2 q4 w kd A B s h hk.ok.inv hst (by omega)
end Lw
end Go.Proofs.YtmmmjpkhnbfnbaaGreat
