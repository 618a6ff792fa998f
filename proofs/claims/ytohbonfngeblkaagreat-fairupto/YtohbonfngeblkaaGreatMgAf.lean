import Derived.Test.YtohbonfngeblkaaGreatMgAe
namespace Go.Proofs.YtohbonfngeblkaaGreat
open Go.RowKit
namespace Lw
open Co
theorem findV_eq (o : Option Pl) : findV o = .tuple #[plA (o.getD zPl), .bool o.isSome] := by cases o <;> rfl
abbrev bSv (i : Int) (p : ByteArray) (f c : Int) : Obj := .cells #[.int .i64 i, .string p, .int .i64 f, .int .i64 c] 55
abbrev bWt (c : Int) (p : ByteArray) : Obj := .cells #[.int .i64 c, .string p] 61
set_option maxRecDepth 20000 in
set_option maxHeartbeats 4000000 in
theorem dSurplus (gp : Nat) (i0 : Int) (pn : ByteArray) (f0 cl : Int) (S : Sta) (X : Aux) (F : Nat → Prop) (w : World) (h : DeskAt w gp S X F) (hq : S.srv.length ≤ 1099511627776) (hq1 : S.pools.length ≤ 1099511627776) :
    Calls Tryz.prog 84 #[.pointer (some ⟨gp, 0, none⟩), .agg #[.int .i64 i0, .string pn, .int .i64 f0, .int .i64 cl]] w fun e w' => e = .returned (.bool (isSur S ⟨i0, pn, f0, cl⟩)) ∧ Below w.heap.size w w' := by
  obtain ⟨po, pc, so, sc, wo, wc, yo, yc, ho, hc, hx⟩ := h.ex
  have hgplt : gp < w.heap.size := h.lt gp h.gp
  obtain ⟨n1, hn1⟩ : ∃ n, S.pools.length = n := ⟨_, rfl⟩
  obtain ⟨n, hn⟩ : ∃ n, S.srv.length = n := ⟨_, rfl⟩
  obtain ⟨bud, hbud⟩ : ∃ b, S.bud = b := ⟨_, rfl⟩
  rw [hn1] at hq1
  rw [hn] at hq
  have HN : Hid (S.pools.length = n1 ∧ S.srv.length = n ∧ S.bud = bud) := ⟨hn1, hn, hbud⟩
  have HX := hideIt hx
  have HH := hideIt h
  obtain ⟨W0, hW0⟩ : ∃ W0, W0 = w.alloc (bSv i0 pn f0 cl) := ⟨_, rfl⟩
  have hbW : Below w.heap.size w W0 := by rw [hW0]; exact nx_alloc _ _
  have K0 : Hid (W0 = w.alloc (bSv i0 pn f0 cl) ∧ W0.heap[w.heap.size]? = some (bSv i0 pn f0 cl) ∧ Below w.heap.size w W0 ∧ w.heap.size < W0.heap.size) := ⟨hW0, by rw [hW0]; exact heap_alloc_at _ _ rfl, hbW, by rw [hW0]; simp⟩
  have hgp0 : gp < W0.heap.size := Nat.lt_of_lt_of_le hgplt hbW.size
  have hw0 : w.heap.size < W0.heap.size := K0.out.2.2.2
  have hd0 := HX.out.nx hgplt hbW
  rw [HN.out.1, HN.out.2.1, HN.out.2.2] at hd0
  obtain ⟨⟨⟨xn, xs, xw, xf⟩, okb⟩, hfe⟩ : ∃ y : Pl × Bool, ((S.pools.find? (isNameP pn)).getD zPl, (S.pools.find? (isNameP pn)).isSome) = y := ⟨_, rfl⟩
  have HFE : Hid ((S.pools.find? (isNameP pn)).getD zPl = ⟨xn, xs, xw, xf⟩ ∧ (S.pools.find? (isNameP pn)).isSome = okb) := ⟨congrArg Prod.fst hfe, congrArg Prod.snd hfe⟩
  have HF : Hid (∀ u, Below W0.heap.size W0 u → Calls Tryz.prog 78 #[.slice po n1 pc, .string pn] u fun e w' => e = .returned (.tuple #[.agg #[.string xn, .int .i64 xs, .int .i64 xw, .int .i64 xf], .bool okb]) ∧ Below u.heap.size u w') := by
    intro u hu
    have hr := own_row HX.out.p.own
    rw [HN.out.1] at hr
    refine (cFind po n1 pc pn S.pools u ((hr.nx hbW).nx hu) HN.out.1 (by unfold maxLen; omega)).mono ?_
    rintro e w' ⟨rfl, hb⟩
    refine ⟨?_, hb⟩
    rw [findV_eq, HFE.out.1, HFE.out.2]
  have HM : Hid (∀ u, Below w.heap.size w u → u.heap[gp]? = some (bDesk bud po n1 pc so n sc wo S.wts.length wc X.op ⟨.slice yo S.plan.length yc, S.begun, S.back, X.hb, .slice ho X.hps.length hc⟩)) := by
    intro u hu
    have := HX.out.nx hgplt hu
    rw [HN.out.1, HN.out.2.1, HN.out.2.2] at this
    exact this
  have HC : Hid (∀ u nm', Below w.heap.size w u → Calls Tryz.prog 101 #[.slice so n sc, .string nm'] u fun e w' => e = .returned (.int .i64 (cntG (isPoolV nm') S.srv : Int)) ∧ Below u.heap.size u w') := by
    intro u nm' hu
    have hr := own_row HX.out.s.own
    rw [HN.out.2.1] at hr
    exact cCountOf so n sc nm' S.srv u (hr.nx hu) HN.out.2.1 (by omega)
  have HSR : Hid (isSur S ⟨i0, pn, f0, cl⟩ = (!okb || (!decide (f0 = xf) || decide (xs < (cntG (isPoolV pn) S.srv : Int)) || decide (bud < (n : Int))))) := by
    show _ = _
    unfold isSur
    simp only
    rw [← HFE.out.2, HN.out.2.1, HN.out.2.2]
    cases hf : S.pools.find? (isNameP pn) with
    | none => rfl
    | some y =>
      have : y = ⟨xn, xs, xw, xf⟩ := by have := HFE.out.1; rw [hf] at this; exact this
      rw [this]
      simp
  obtain ⟨g0, g1, g2, g3, g4, gz⟩ := blk5d hd0
  obtain ⟨b0, b1, b2, b3, bz⟩ := blk4d K0.out.2.1
  have n1' := World.new_ne W0 _ g1
  have n2' := World.new_ne W0 _ b1
  clear h hx hn1 hn hbud hW0 hbW hd0 hfe
  go_enter Tryz.func84, Tryz.ntmps84
  go_upto_region 1 with fail
  rw [← K0.out.1]
  go_cut [5, 6] (fun p ok wx => ok = .bool okb ∧ ∃ (g : Nat) (wz : World), p = .pointer (some ⟨g, 0, none⟩) ∧ Hid (Fnd W0 ⟨xn, xs, xw, xf⟩ g wz) ∧ wz = wx)
  case first =>
    go_region_held3 (fun w' => w'.cell? ⟨gp, 1, none⟩ = some (.slice po n1 pc) ∧ w'.cell? ⟨w.heap.size, 1, none⟩ = some (.string pn)) (go_keep)
      ((go_at_call 78; refine (HF.out _ (by first | exact (Below.refl _ _).drew | exact (Below.refl _ _).drew.alloc (Nat.le_refl _) _)).mono ?_; rintro e w2 ⟨rfl, hb2⟩; have HB2 : Hid (Below W0.heap.size W0 w2) := (by first | exact nx_trans (Below.refl _ _).drew hb2 | exact nx_trans ((Below.refl _ _).drew.alloc (Nat.le_refl _) _) hb2); have q1 := (HB2.out.cell (p := ⟨gp, 1, none⟩) hgp0).trans g1; have q2 := (HB2.out.cell (p := ⟨w.heap.size, 1, none⟩) hw0).trans b1; have r1 := World.new_ne w2 _ q1; have r2 := World.new_ne w2 _ q2; first | (have HBX : Hid (w2.heap[W0.heap.size]? = some (bPl zPl)) := (hb2.block W0.heap.size (by simp)).trans (heap_alloc_at W0.drew (bPl zPl) rfl); obtain ⟨k0, k1, k2, k3, kz⟩ := blk4d HBX.out) | skip; clear hb2))
    all_goals
      go_wp2_with fail
      go_meet
      first
      | exact ⟨rfl, _, _, rfl, fnd_a HB2.out, rfl⟩
      | exact ⟨rfl, _, _, rfl, fnd_b HB2.out HBX.out, rfl⟩
  case rest =>
    obtain ⟨rfl, g, wz, rfl, HFN, rfl⟩ := hcut
    have HBZ : Hid (Below w.heap.size w wz) := nx_trans K0.out.2.2.1 HFN.out.bel
    have hsb : wz.heap[w.heap.size]? = some (bSv i0 pn f0 cl) := (HFN.out.bel.block _ hw0).trans K0.out.2.1
    have hdz := HM.out wz HBZ.out
    clear g0 g1 g2 g3 g4 gz b0 b1 b2 b3 bz n1' n2'
    obtain ⟨g0, g1, g2, g3, g4, gz⟩ := blk5d hdz
    obtain ⟨b0, b1, b2, b3, bz⟩ := blk4d hsb
    obtain ⟨p0, p1, p2, p3, pz⟩ := blk4d HFN.out.box
    have HSB := hideIt hsb
    clear hdz hsb
    cases okb with
    | false =>
      go_wp2_with fail
      go_ret
      exact ⟨by rw [HSR.out]; rfl, HBZ.out⟩
    | true =>
      cases hfr : (f0 != xf) with
      | true =>
        have HE : Hid (decide (f0 = xf) = false) := by
          show _ = _
          simpa using hfr
        go_wp2_with fail
        go_ret
        exact ⟨by rw [HSR.out, HE.out]; rfl, HBZ.out⟩
      | false =>
        have HE : Hid (decide (f0 = xf) = true) := by
          show _ = _
          simpa using hfr
        have n1' := World.new_ne wz _ g2
        go_upto_region 4 with fail
        obtain ⟨q, hqq⟩ : ∃ q, cntG (isPoolV pn) S.srv = q := ⟨_, rfl⟩
        have HQ : Hid (cntG (isPoolV pn) S.srv = q ∧ q ≤ n) := ⟨hqq, by rw [← hqq, ← HN.out.2.1]; exact List.length_filter_le _ _⟩
        have hqn : q ≤ n := HQ.out.2
        clear hqq
        go_cut [36] (fun v wx => v = .bool (decide (xs < (q : Int))) ∧ ∃ wy, Hid (Below wz.heap.size wz wy) ∧ wy = wx)
        case first =>
          go_region_held3 (fun w' => w'.cell? ⟨gp, 2, none⟩ = some (.slice so n sc) ∧ w'.cell? ⟨w.heap.size, 1, none⟩ = some (.string pn) ∧ w'.cell? ⟨g, 1, none⟩ = some (.int .i64 xs)) (go_keep)
            ((go_at_call 101; refine (HC.out _ pn (nx_trans HBZ.out ((Below.refl _ _).drew))).mono ?_; rintro e w5 ⟨rfl, hb5⟩; rw [HQ.out.1]; have HB5 : Hid (Below wz.heap.size wz w5) := nx_trans (Below.refl _ _).drew hb5; have q1 := (HB5.out.cell (p := ⟨gp, 2, none⟩) (Nat.lt_of_lt_of_le hgplt HBZ.out.size)).trans g2; have q2 := (HB5.out.cell (p := ⟨w.heap.size, 1, none⟩) (Array.getElem?_eq_some_iff.1 HSB.out).1).trans b1; have q3 := (HB5.out.cell (p := ⟨g, 1, none⟩) (Array.getElem?_eq_some_iff.1 HFN.out.box).1).trans p1; clear hb5))
          all_goals
            go_wp2_with fail
            go_meet
            exact ⟨rfl, _, HB5.out, rfl⟩
        case rest =>
          obtain ⟨rfl, wy, HB5, rfl⟩ := hcut
          have hbY := nx_trans HBZ.out HB5.out
          have HBY := hideIt hbY
          have hdy := HM.out wy hbY
          clear g0 g1 g2 g3 g4 gz b0 b1 b2 b3 bz p0 p1 p2 p3 pz n1' hbY
          obtain ⟨g0, g1, g2, g3, g4, gz⟩ := blk5d hdy
          clear hdy
          cases hcn : decide (xs < (q : Int)) with
          | true =>
            go_wp2_with fail
            go_ret
            exact ⟨by rw [HSR.out, HE.out, HQ.out.1, hcn]; rfl, HBY.out⟩
          | false =>
            go_upto_region 6 with fail
            go_quiet (fail)
            go_wp2_with fail
            go_ret
            refine ⟨?_, below_drewN HBY.out _⟩
            rw [HSR.out, HE.out, HQ.out.1, hcn]
            simp
end Lw
end Go.Proofs.YtohbonfngeblkaaGreat
