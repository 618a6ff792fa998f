import Derived.Test.YtohbonfngeblkaaGreatMnQ
namespace Go.Proofs.YtohbonfngeblkaaGreat
open Go.RowKit
namespace Lw
open Co
theorem findV_eq (o : Option Pl) : findV o = .tuple #[plA (o.getD zPl), .bool o.isSome] := by cases o <;> rfl
abbrev bSv (i : Int) (p : ByteArray) (f c : Int) : Obj := .cells #[.int .i64 i, .string p, .int .i64 f, .int .i64 c] 55
abbrev bWt (c : Int) (p : ByteArray) : Obj := .cells #[.int .i64 c, .string p] 61
set_option maxRecDepth 20000 in
set_option maxHeartbeats 4000000 in
theorem dSurplus (gp : Nat) (i0 : Int) (pn : ByteArray) (f0 cl : Int) (S : Sta) (X : Aux) (F : Nat → Prop) (w : World) (h : DeskAt w gp S X F) (hq : S.srv.length ≤ 1099511627776) (hq1 : S.pools.length ≤ 1099511627776) :
    Calls Tryz.prog 84 #[.pointer (some ⟨gp, 0, none⟩), .agg #[.int .i64 i0, .string pn, .int .i64 f0, .int .i64 cl]] w fun e w' => e = .returned (.bool (isSur S ⟨i0, pn, f0, cl⟩)) ∧ Below w.heap.size w w' := by
  obtain ⟨po, pc, so, sc, wo, wc, yo, yc, ho, hc, hx⟩ := h.ex
  have hgplt : gp < w.heap.size := h.lt gp h.gp
  obtain ⟨n1, hn1⟩ : ∃ n, S.pools.length = n := ⟨_, rfl⟩
  obtain ⟨n, hn⟩ : ∃ n, S.srv.length = n := ⟨_, rfl⟩
  obtain ⟨bud, hbud⟩ : ∃ b, S.bud = b := ⟨_, rfl⟩
  rw [hn1] at hq1
  rw [hn] at hq
  have HN : Hid (S.pools.length = n1 ∧ S.srv.length = n ∧ S.bud = bud) := ⟨hn1, hn, hbud⟩
  have HX := hideIt hx
  have HH := hideIt h
  obtain ⟨W0, hW0⟩ : ∃ W0, W0 = w.alloc (bSv i0 pn f0 cl) := ⟨_, rfl⟩
  have hbW : Below w.heap.size w W0 := by rw [hW0]; exact nx_alloc _ _
  have K0 : Hid (W0 = w.alloc (bSv i0 pn f0 cl) ∧ W0.heap[w.heap.size]? = some (bSv i0 pn f0 cl) ∧ Below w.heap.size w W0 ∧ w.heap.size < W0.heap.size) := ⟨hW0, by rw [hW0]; exact heap_alloc_at _ _ rfl, hbW, by rw [hW0]; simp⟩
  have hgp0 : gp < W0.heap.size := Nat.lt_of_lt_of_le hgplt hbW.size
  have hw0 : w.heap.size < W0.heap.size := K0.out.2.2.2
  have hd0 := HX.out.nx hgplt hbW
  rw [HN.out.1, HN.out.2.1, HN.out.2.2] at hd0
  obtain ⟨⟨⟨xn, xs, xw, xf⟩, okb⟩, hfe⟩ : ∃ y : Pl × Bool, ((S.pools.find? (isNameP pn)).getD zPl, (S.pools.find? (isNameP pn)).isSome) = y := ⟨_, rfl⟩
  have HFE : Hid ((S.pools.find? (isNameP pn)).getD zPl = ⟨xn, xs, xw, xf⟩ ∧ (S.pools.find? (isNameP pn)).isSome = okb) := ⟨congrArg Prod.fst hfe, congrArg Prod.snd hfe⟩
  have HF : Hid (∀ u, Below W0.heap.size W0 u → Calls Tryz.prog 78 #[.slice po n1 pc, .string pn] u fun e w' => e = .returned (.tuple #[.agg #[.string xn, .int .i64 xs, .int .i64 xw, .int .i64 xf], .bool okb]) ∧ Below u.heap.size u w') := by
    intro u hu
    have hr := own_row HX.out.p.own
    rw [HN.out.1] at hr
    refine (cFind po n1 pc pn S.pools u ((hr.nx hbW).nx hu) HN.out.1 (by unfold maxLen; omega)).mono ?_
    rintro e w' ⟨rfl, hb⟩
    refine ⟨?_, hb⟩
    rw [findV_eq, HFE.out.1, HFE.out.2]
  have HM : Hid (∀ u, Below w.heap.size w u → u.heap[gp]? = some (bDesk bud po n1 pc so n sc wo S.wts.length wc X.op ⟨.slice yo S.plan.length yc, S.begun, S.back, X.hb, .slice ho X.hps.length hc⟩)) := by
    intro u hu
    have := HX.out.nx hgplt hu
    rw [HN.out.1, HN.out.2.1, HN.out.2.2] at this
    exact this
  have HC : Hid (∀ u nm', Below w.heap.size w u → Calls Tryz.prog 101 #[.slice so n sc, .string nm'] u fun e w' => e = .returned (.int .i64 (cntG (isPoolV nm') S.srv : Int)) ∧ Below u.heap.size u w') := by
    intro u nm' hu
    have hr := own_row HX.out.s.own
    rw [HN.out.2.1] at hr
    exact cCountOf so n sc nm' S.srv u (hr.nx hu) HN.out.2.1 (by omega)
  have HSR : Hid (isSur S ⟨i0, pn, f0, cl⟩ = (!okb || (!decide (f0 = xf) || decide (xs < (cntG (isPoolV pn) S.srv : Int)) || decide (bud < (n : Int))))) := by
    show _ = _
    unfold isSur
    simp only
    rw [← HFE.out.2, HN.out.2.1, HN.out.2.2]
    cases hf : S.pools.find? (isNameP pn) with
    | none => rfl
    | some y =>
      have : y = ⟨xn, xs, xw, xf⟩ := by have := HFE.out.1; rw [hf] at this; exact this
      rw [this]
      simp
  obtain ⟨g0, g1, g2, g3, g4, gz⟩ := blk5d hd0
  obtain ⟨b0, b1, b2, b3, bz⟩ := blk4d K0.out.2.1
  have n1' := World.new_ne W0 _ g1
  have n2' := World.new_ne W0 _ b1
  clear h hx hn1 hn hbud hW0 hbW hd0 hfe
  go_enter Tryz.func84, Tryz.ntmps84
  go_upto_region 1 with fail
  rw [← K0.out.1]
  go_cut [5, 6] (fun p ok wx => ok = .bool okb ∧ ∃ (g : Nat) (wz : World), p = .pointer (some ⟨g, 0, none⟩) ∧ Hid (Fnd W0 ⟨xn, xs, xw, xf⟩ g wz) ∧ wz = wx)
  case first =>
    go_region_held3 (fun w' => w'.cell? ⟨gp, 1, none⟩ = some (.slice po n1 pc) ∧ w'.cell? ⟨w.heap.size, 1, none⟩ = some (.string pn)) (go_keep)
      ((go_at_call 78; refine (HF.out _ (by first | exact (Below.refl _ _).drew | exact (Below.refl _ _).drew.alloc (Nat.le_refl _) _)).mono ?_; rintro e w2 ⟨rfl, hb2⟩; have HB2 : Hid (Below W0.heap.size W0 w2) := (by first | exact nx_trans (Below.refl _ _).drew hb2 | exact nx_trans ((Below.refl _ _).drew.alloc (Nat.le_refl _) _) hb2); have q1 := (HB2.out.cell (p := ⟨gp, 1, none⟩) hgp0).trans g1; have q2 := (HB2.out.cell (p := ⟨w.heap.size, 1, none⟩) hw0).trans b1; have r1 := World.new_ne w2 _ q1; have r2 := World.new_ne w2 _ q2; first | (have HBX : Hid (w2.heap[W0.heap.size]? = some (bPl zPl)) := (hb2.block W0.heap.size (by simp)).trans (heap_alloc_at W0.drew (bPl zPl) rfl); obtain ⟨k0, k1, k2, k3, kz⟩ := blk4d HBX.out) | skip; clear hb2))
    all_goals
      go_wp2_with fail
      go_meet
      first
      | exact ⟨rfl, _, _, rfl, fnd_a HB2.out, rfl⟩
      | exact ⟨rfl, _, _, rfl, fnd_b HB2.out HBX.out, rfl⟩
  case rest =>
    obtain ⟨rfl, g, wz, rfl, HFN, rfl⟩ := hcut
    have HBZ : Hid (Below w.heap.size w wz) := nx_trans K0.out.2.2.1 HFN.out.bel
    have hsb : wz.heap[w.heap.size]? = some (bSv i0 pn f0 cl) := (HFN.out.bel.block _ hw0).trans K0.out.2.1
    have hdz := HM.out wz HBZ.out
    clear g0 g1 g2 g3 g4 gz b0 b1 b2 b3 bz n1' n2'
    obtain ⟨g0, g1, g2, g3, g4, gz⟩ := blk5d hdz
    obtain ⟨b0, b1, b2, b3, bz⟩ := blk4d hsb
    obtain ⟨p0, p1, p2, p3, pz⟩ := blk4d HFN.out.box
    have HSB := hideIt hsb
    clear hdz hsb
    cases okb with
    | false =>
      go_wp2_with fail
      go_ret
      exact ⟨by rw [HSR.out]; rfl, HBZ.out⟩
    | true =>
      cases hfr : (f0 != xf) with
      | true =>
        have HE : Hid (decide (f0 = xf) = false) := by
          show _ = _
          simpa using hfr
        go_wp2_with fail
        go_ret
        exact ⟨by rw [HSR.out, HE.out]; rfl, HBZ.out⟩
      | false =>
        have HE : Hid (decide (f0 = xf) = true) := by
          show _ = _
          simpa using hfr
        have n1' := World.new_ne wz _ g2
        go_upto_region 4 with fail
        obtain ⟨q, hqq⟩ : ∃ q, cntG (isPoolV pn) S.srv = q := ⟨_, rfl⟩
        have HQ : Hid (cntG (isPoolV pn) S.srv = q ∧ q ≤ n) := ⟨hqq, by rw [← hqq, ← HN.out.2.1]; exact List.length_filter_le _ _⟩
        have hqn : q ≤ n := HQ.out.2
        clear hqq
        go_cut [36] (fun v wx => v = .bool (decide (xs < (q : Int))) ∧ ∃ wy, Hid (Below wz.heap.size wz wy) ∧ wy = wx)
        case first =>
          go_region_held3 (fun w' => w'.cell? ⟨gp, 2, none⟩ = some (.slice so n sc) ∧ w'.cell? ⟨w.heap.size, 1, none⟩ = some (.string pn) ∧ w'.cell? ⟨g, 1, none⟩ = some (.int .i64 xs)) (go_keep)
            ((go_at_call 101; refine (HC.out _ pn (nx_trans HBZ.out ((Below.refl _ _).drew))).mono ?_; rintro e w5 ⟨rfl, hb5⟩; rw [HQ.out.1]; have HB5 : Hid (Below wz.heap.size wz w5) := nx_trans (Below.refl _ _).drew hb5; have q1 := (HB5.out.cell (p := ⟨gp, 2, none⟩) (Nat.lt_of_lt_of_le hgplt HBZ.out.size)).trans g2; have q2 := (HB5.out.cell (p := ⟨w.heap.size, 1, none⟩) (Array.getElem?_eq_some_iff.1 HSB.out).1).trans b1; have q3 := (HB5.out.cell (p := ⟨g, 1, none⟩) (Array.getElem?_eq_some_iff.1 HFN.out.box).1).trans p1; clear hb5))
          all_goals
            go_wp2_with fail
            go_meet
            exact ⟨rfl, _, HB5.out, rfl⟩
        case rest =>
          obtain ⟨rfl, wy, HB5, rfl⟩ := hcut
          have hbY := nx_trans HBZ.out HB5.out
          have HBY := hideIt hbY
          have hdy := HM.out wy hbY
          clear g0 g1 g2 g3 g4 gz b0 b1 b2 b3 bz p0 p1 p2 p3 pz n1' hbY
          obtain ⟨g0, g1, g2, g3, g4, gz⟩ := blk5d hdy
          clear hdy
          cases hcn : decide (xs < (q : Int)) with
          | true =>
            go_wp2_with fail
            go_ret
            exact ⟨by rw [HSR.out, HE.out, HQ.out.1, hcn]; rfl, HBY.out⟩
          | false =>
            go_upto_region 6 with fail
            go_quiet (fail)
            go_wp2_with fail
            go_ret
            refine ⟨?_, below_drewN HBY.out _⟩
            rw [HSR.out, HE.out, HQ.out.1, hcn]
            simp
end Lw
end Go.Proofs.YtohbonfngeblkaaGreat
namespace Go.Proofs.YtohbonfngeblkaaGreat
open Go.RowKit
namespace Lw
open Co
structure FndS (W : World) (y : Srv) (g : Nat) (wz : World) : Prop where
  new : W.heap.size ≤ g
  box : wz.heap[g]? = some (bSv y.id y.pool y.far y.client)
  bel : Below W.heap.size W wz
theorem fndS_a {W w9 : World} {y : Srv} (h : Below W.heap.size W w9) : FndS W y w9.heap.size (w9.alloc (bSv y.id y.pool y.far y.client)) := ⟨h.size, heap_alloc_at _ _ rfl, h.alloc h.size _⟩
theorem fndS_b {W w9 : World} {y z : Srv} (h : Below W.heap.size W w9) (hz : w9.heap[W.heap.size]? = some (bSv z.id z.pool z.far z.client)) : FndS W y W.heap.size ((((w9.setCell ⟨W.heap.size, 0, none⟩ (.int .i64 y.id)).setCell ⟨W.heap.size, 1, none⟩ (.string y.pool)).setCell ⟨W.heap.size, 2, none⟩ (.int .i64 y.far)).setCell ⟨W.heap.size, 3, none⟩ (.int .i64 y.client)) :=
  ⟨Nat.le_refl _, set_heap _ _ _ _ _ _ (set_heap _ _ _ _ _ _ (set_heap _ _ _ _ _ _ (set_heap _ _ _ _ _ _ hz))), (((h.setCell (Nat.le_refl _) _).setCell (Nat.le_refl _) _).setCell (Nat.le_refl _) _).setCell (Nat.le_refl _) _⟩
theorem give_eq (S : Sta) (op : Int) (c : Wtr) : cGive S op c = match S.pools.find? (isNameP c.pool) with
    | none => none
    | some x => match S.srv.find? (fun s => isPoolV x.nm s && isCliV 0 s) with
      | some s => some (cHand S s.id c.client, op)
      | none => if x.sz ≤ (cntG (isPoolV x.nm) S.srv : Int) then none else (cRoom S).map (fun T => (cOpen T op x c.client, op + 1)) := by
  unfold cGive cRoom
  cases S.pools.find? (isNameP c.pool) with
  | none => rfl
  | some x =>
    simp only
    cases S.srv.find? (fun s => isPoolV x.nm s && isCliV 0 s) with
    | some s => rfl
    | none =>
      simp only
      split
      · rfl
      · split
        · rfl
        · cases S.srv.find? (isCliV 0) with
          | none => rfl
          | some s =>
            simp only
            split <;> rfl
theorem room_len (S T : Sta) (h : cRoom S = some T) : T.srv.length ≤ S.srv.length := by
  unfold cRoom at h
  split at h
  · simp at h; rw [← h]; exact Nat.le_refl _
  · split at h
    · simp at h
    · split at h
      · simp at h
      · simp at h; rw [← h]; exact List.length_filter_le _ _
def GaveG (o : Option (Sta × Int)) (w w' : World) (gp : Nat) (S : Sta) (X : Aux) (F : Nat → Prop) (e : Ending) : Prop :=
  e = .returned (.bool o.isSome) ∧ Moved w w' gp (o.getD (S, X.op)).1 { X with op := (o.getD (S, X.op)).2 } F
set_option maxRecDepth 20000 in
set_option maxHeartbeats 8000000 in
theorem dGive (gp : Nat) (cc : Int) (cp : ByteArray) (S : Sta) (X : Aux) (F : Nat → Prop) (w : World) (h : DeskAt w gp S X F) (hid : ∀ x ∈ S.srv, x.id ≠ 0) (hq : S.srv.length + 1 ≤ 1099511627776) (hq1 : S.pools.length ≤ 1099511627776) (hop : 0 ≤ X.op ∧ X.op < 9223372036854775807) :
    Calls Tryz.prog 108 #[.pointer (some ⟨gp, 0, none⟩), .agg #[.int .i64 cc, .string cp]] w fun e w' => GaveG (cGive S X.op ⟨cc, cp⟩) w w' gp S X F e := by
  obtain ⟨po, pc, so, sc, wo, wc, yo, yc, ho, hc, hx⟩ := h.ex
  have hgplt : gp < w.heap.size := h.lt gp h.gp
  obtain ⟨n1, hn1⟩ : ∃ n, S.pools.length = n := ⟨_, rfl⟩
  obtain ⟨n, hn⟩ : ∃ n, S.srv.length = n := ⟨_, rfl⟩
  obtain ⟨bud, hbud⟩ : ∃ b, S.bud = b := ⟨_, rfl⟩
  rw [hn1] at hq1
  rw [hn] at hq
  have HN : Hid (S.pools.length = n1 ∧ S.srv.length = n ∧ S.bud = bud) := ⟨hn1, hn, hbud⟩
  have HX := hideIt hx
  have HH := hideIt h
  obtain ⟨W0, hW0⟩ : ∃ W0, W0 = w.alloc (bWt cc cp) := ⟨_, rfl⟩
  have hbW : Below w.heap.size w W0 := by rw [hW0]; exact nx_alloc _ _
  have K0 : Hid (W0 = w.alloc (bWt cc cp) ∧ W0.heap[w.heap.size]? = some (bWt cc cp) ∧ Below w.heap.size w W0 ∧ w.heap.size < W0.heap.size) := ⟨hW0, by rw [hW0]; exact heap_alloc_at _ _ rfl, hbW, by rw [hW0]; simp⟩
  have hgp0 : gp < W0.heap.size := Nat.lt_of_lt_of_le hgplt hbW.size
  have hw0 : w.heap.size < W0.heap.size := K0.out.2.2.2
  have hd0 := HX.out.nx hgplt hbW
  rw [HN.out.1, HN.out.2.1, HN.out.2.2] at hd0
  obtain ⟨⟨⟨xn, xs, xw, xf⟩, okb⟩, hfe⟩ : ∃ y : Pl × Bool, ((S.pools.find? (isNameP cp)).getD zPl, (S.pools.find? (isNameP cp)).isSome) = y := ⟨_, rfl⟩
  have HFE : Hid ((S.pools.find? (isNameP cp)).getD zPl = ⟨xn, xs, xw, xf⟩ ∧ (S.pools.find? (isNameP cp)).isSome = okb) := ⟨congrArg Prod.fst hfe, congrArg Prod.snd hfe⟩
  have HF : Hid (∀ u, Below W0.heap.size W0 u → Calls Tryz.prog 78 #[.slice po n1 pc, .string cp] u fun e w' => e = .returned (.tuple #[.agg #[.string xn, .int .i64 xs, .int .i64 xw, .int .i64 xf], .bool okb]) ∧ Below u.heap.size u w') := by
    intro u hu
    have hr := own_row HX.out.p.own
    rw [HN.out.1] at hr
    refine (cFind po n1 pc cp S.pools u ((hr.nx hbW).nx hu) HN.out.1 (by unfold maxLen; omega)).mono ?_
    rintro e w' ⟨rfl, hb⟩
    refine ⟨?_, hb⟩
    rw [findV_eq, HFE.out.1, HFE.out.2]
  have HM : Hid (∀ u, Below w.heap.size w u → u.heap[gp]? = some (bDesk bud po n1 pc so n sc wo S.wts.length wc X.op ⟨.slice yo S.plan.length yc, S.begun, S.back, X.hb, .slice ho X.hps.length hc⟩)) := by
    intro u hu
    have := HX.out.nx hgplt hu
    rw [HN.out.1, HN.out.2.1, HN.out.2.2] at this
    exact this
  have HC : Hid (∀ u nm', Below w.heap.size w u → Calls Tryz.prog 101 #[.slice so n sc, .string nm'] u fun e w' => e = .returned (.int .i64 (cntG (isPoolV nm') S.srv : Int)) ∧ Below u.heap.size u w') := by
    intro u nm' hu
    have hr := own_row HX.out.s.own
    rw [HN.out.2.1] at hr
    exact cCountOf so n sc nm' S.srv u (hr.nx hu) HN.out.2.1 (by omega)
  have HKD : Hid (∀ u, Below w.heap.size w u → DeskAt u gp S X F) := fun u hu => HH.out.keep (G := fun _ => False) (Chg.of_below hu) (fun _ _ h => h)
  have HNF : Hid (∀ y, w.heap.size ≤ y → ¬ F y) := fun y hy hf => by have := HH.out.lt y hf; omega
  have HFI : Hid (∀ u nm', Below w.heap.size w u → Calls Tryz.prog 125 #[.slice so n sc, .string nm'] u fun e w' => e = .returned (svA (orS (S.srv.find? (fun s => isPoolV nm' s && isCliV 0 s)))) ∧ Below u.heap.size u w') := by
    intro u nm' hu
    have hr := own_row HX.out.s.own
    rw [HN.out.2.1] at hr
    exact cFirstIdleOf so n sc nm' S.srv u (hr.nx hu) HN.out.2.1 (by omega)
  have HID := hideIt hid
  have HG := hideIt (give_eq S X.op ⟨cc, cp⟩)
  have hq' : n + 1 ≤ 1099511627776 := hq
  obtain ⟨g0, g1, g2, g3, g4, gz⟩ := blk5d hd0
  obtain ⟨b0, b1, bz⟩ := blk2 K0.out.2.1
  have n1' := World.new_ne W0 _ g1
  have n2' := World.new_ne W0 _ b1
  clear h hx hn1 hn hbud hW0 hbW hd0 hfe hid
  go_enter Tryz.func108, Tryz.ntmps108
  go_upto_region 1 with fail
  rw [← K0.out.1]
  go_cut [5, 6] (fun p ok wx => ok = .bool okb ∧ ∃ (g : Nat) (wz : World), p = .pointer (some ⟨g, 0, none⟩) ∧ Hid (Fnd W0 ⟨xn, xs, xw, xf⟩ g wz) ∧ wz = wx)
  case first =>
    go_region_held3 (fun w' => w'.cell? ⟨gp, 1, none⟩ = some (.slice po n1 pc) ∧ w'.cell? ⟨w.heap.size, 1, none⟩ = some (.string cp)) (go_keep)
      ((go_at_call 78; refine (HF.out _ (by first | exact (Below.refl _ _).drew | exact (Below.refl _ _).drew.alloc (Nat.le_refl _) _)).mono ?_; rintro e w2 ⟨rfl, hb2⟩; have HB2 : Hid (Below W0.heap.size W0 w2) := (by first | exact nx_trans (Below.refl _ _).drew hb2 | exact nx_trans ((Below.refl _ _).drew.alloc (Nat.le_refl _) _) hb2); have q1 := (HB2.out.cell (p := ⟨gp, 1, none⟩) hgp0).trans g1; have q2 := (HB2.out.cell (p := ⟨w.heap.size, 1, none⟩) hw0).trans b1; have r1 := World.new_ne w2 _ q1; have r2 := World.new_ne w2 _ q2; first | (have HBX : Hid (w2.heap[W0.heap.size]? = some (bPl zPl)) := (hb2.block W0.heap.size (by simp)).trans (heap_alloc_at W0.drew (bPl zPl) rfl); obtain ⟨k0, k1, k2, k3, kz⟩ := blk4d HBX.out) | skip; clear hb2))
    all_goals
      go_wp2_with fail
      go_meet
      first
      | exact ⟨rfl, _, _, rfl, fnd_a HB2.out, rfl⟩
      | exact ⟨rfl, _, _, rfl, fnd_b HB2.out HBX.out, rfl⟩
  case rest =>
    obtain ⟨rfl, g, wz, rfl, HFN, rfl⟩ := hcut
    have HBZ : Hid (Below w.heap.size w wz) := nx_trans K0.out.2.2.1 HFN.out.bel
    have hsb : wz.heap[w.heap.size]? = some (bWt cc cp) := (HFN.out.bel.block _ hw0).trans K0.out.2.1
    have hdz := HM.out wz HBZ.out
    clear g0 g1 g2 g3 g4 gz b0 b1 bz n1' n2'
    obtain ⟨g0, g1, g2, g3, g4, gz⟩ := blk5d hdz
    obtain ⟨b0, b1, bz⟩ := blk2 hsb
    obtain ⟨p0, p1, p2, p3, pz⟩ := blk4d HFN.out.box
    have HSB := hideIt hsb
    clear hdz hsb
    cases okb with
    | false =>
      have HR : Hid (cGive S X.op ⟨cc, cp⟩ = none) := by
        show _ = _
        rw [HG.out]
        cases hf : S.pools.find? (isNameP cp) with
        | none => rfl
        | some y => have := HFE.out.2; rw [hf] at this; simp at this
      go_wp2_with fail
      go_ret
      rw [HR.out]
      exact ⟨rfl, (Moved.refl HH.out).below HBZ.out⟩
    | true =>
      have HPX : Hid (S.pools.find? (isNameP cp) = some ⟨xn, xs, xw, xf⟩) := by
        show _ = _
        cases hf : S.pools.find? (isNameP cp) with
        | none => have := HFE.out.2; rw [hf] at this; simp at this
        | some y => have := HFE.out.1; rw [hf] at this; rw [← this]; rfl
      have HZ := hideIt (orS_zero (p := fun s => isPoolV xn s && isCliV 0 s) HID.out)
      obtain ⟨⟨s0, s1, s2, s3⟩, hse⟩ : ∃ y, orS (S.srv.find? (fun s => isPoolV xn s && isCliV 0 s)) = y := ⟨_, rfl⟩
      have HSE := hideIt hse
      have HFJ : Hid (∀ u, Below wz.heap.size wz u → Calls Tryz.prog 125 #[.slice so n sc, .string xn] u fun e w' => e = .returned (.agg #[.int .i64 s0, .string s1, .int .i64 s2, .int .i64 s3]) ∧ Below u.heap.size u w') := by
        intro u hu
        have := HFI.out u xn (nx_trans HBZ.out hu)
        rw [HSE.out] at this
        exact this
      rw [hse] at HZ
      simp only at HZ
      clear hse
      have n1' := World.new_ne wz _ g2
      have n2' := World.new_ne wz _ p0
      have hgpz : gp < wz.heap.size := Nat.lt_of_lt_of_le hgplt HBZ.out.size
      have hgz : g < wz.heap.size := (Array.getElem?_eq_some_iff.1 HFN.out.box).1
      go_upto_region 4 with fail
      go_cut [7] (fun p wx => ∃ (g7 : Nat) (wy : World), p = .pointer (some ⟨g7, 0, none⟩) ∧ Hid (FndS wz ⟨s0, s1, s2, s3⟩ g7 wy) ∧ wy = wx)
      case first =>
        go_region_held3 (fun w' => w'.cell? ⟨gp, 2, none⟩ = some (.slice so n sc) ∧ w'.cell? ⟨g, 0, none⟩ = some (.string xn)) (go_keep)
          ((go_at_call 125; refine (HFJ.out _ (by first | exact (Below.refl _ _).drew | exact (Below.refl _ _).drew.alloc (Nat.le_refl _) _)).mono ?_; rintro e w2 ⟨rfl, hb2⟩; have HB2 : Hid (Below wz.heap.size wz w2) := (by first | exact nx_trans (Below.refl _ _).drew hb2 | exact nx_trans ((Below.refl _ _).drew.alloc (Nat.le_refl _) _) hb2); have q1 := (HB2.out.cell (p := ⟨gp, 2, none⟩) hgpz).trans g2; have q2 := (HB2.out.cell (p := ⟨g, 0, none⟩) hgz).trans p0; have r1 := World.new_ne w2 _ q1; have r2 := World.new_ne w2 _ q2; first | (have HBX : Hid (w2.heap[wz.heap.size]? = some (bSv 0 ⟨#[]⟩ 0 0)) := (hb2.block wz.heap.size (by simp)).trans (heap_alloc_at wz.drew (bSv 0 ⟨#[]⟩ 0 0) rfl); obtain ⟨k0, k1, k2, k3, kz⟩ := blk4d HBX.out) | skip; clear hb2))
        all_goals
          go_wp2_with fail
          go_meet
          first
          | exact ⟨_, _, rfl, fndS_a (y := ⟨s0, s1, s2, s3⟩) HB2.out, rfl⟩
          | exact ⟨_, _, rfl, fndS_b (y := ⟨s0, s1, s2, s3⟩) (z := zSrv) HB2.out HBX.out, rfl⟩
      case rest =>
        obtain ⟨g7, wy, rfl, HFS, rfl⟩ := hcut
        have HBY : Hid (Below w.heap.size w wy) := nx_trans HBZ.out HFS.out.bel
        have hsy : wy.heap[w.heap.size]? = some (bWt cc cp) := (HFS.out.bel.block _ (Array.getElem?_eq_some_iff.1 HSB.out).1).trans HSB.out
        have hpy : wy.heap[g]? = some (bPl ⟨xn, xs, xw, xf⟩) := (HFS.out.bel.block _ hgz).trans HFN.out.box
        have hdy := HM.out wy HBY.out
        clear g0 g1 g2 g3 g4 gz b0 b1 bz p0 p1 p2 p3 pz n1' n2' hgpz hgz
        obtain ⟨g0, g1, g2, g3, g4, gz⟩ := blk5d hdy
        obtain ⟨b0, b1, bz⟩ := blk2 hsy
        obtain ⟨p0, p1, p2, p3, pz⟩ := blk4d hpy
        obtain ⟨y0, y1, y2, y3, yz⟩ := blk4d HFS.out.box
        have HY : Hid (wy.heap[w.heap.size]? = some (bWt cc cp) ∧ wy.heap[g]? = some (bPl ⟨xn, xs, xw, xf⟩) ∧ w.heap.size ≤ g) := ⟨hsy, hpy, Nat.le_trans K0.out.2.2.1.size HFN.out.new⟩
        simp only at y0 y1 y2 y3
        clear hdy hsy hpy HFJ
        cases hz : (s0 != 0) with
        | true =>
          have HR : Hid (cGive S X.op ⟨cc, cp⟩ = some (cHand S s0 cc, X.op)) := by
            show _ = _
            have h0 : (s0 == 0) = false := by simpa [bne] using hz
            rw [HG.out]
            simp only
            rw [HPX.out]
            simp only
            cases hf : S.srv.find? (fun s => isPoolV xn s && isCliV 0 s) with
            | none => have := HZ.out; rw [h0, hf] at this; simp at this
            | some s =>
              have := HSE.out
              rw [hf] at this
              simp only
              rw [show s.id = s0 by rw [show s = ⟨s0, s1, s2, s3⟩ from this]]
          have HHD := hideIt (dHand gp s0 cc S X F wy (HKD.out wy HBY.out) (by rw [HN.out.2.1]; omega))
          go_wp2_with fail
          refine HHD.out.mono ?_
          rintro e w3 ⟨⟨x, rfl⟩, hm⟩
          have KF := hideIt (Moved.after HBY.out hm)
          clear hm g0 g1 g2 g3 g4 gz b0 b1 bz p0 p1 p2 p3 pz y0 y1 y2 y3 yz
          go_wp2_with fail
          go_ret
          rw [HR.out]
          exact ⟨rfl, KF.out⟩
        | false =>
          have HFN0 : Hid (S.srv.find? (fun s => isPoolV xn s && isCliV 0 s) = none) := by
            show _ = _
            have h0 : (s0 == 0) = true := by simpa [bne] using hz
            cases hf : S.srv.find? (fun s => isPoolV xn s && isCliV 0 s) with
            | none => rfl
            | some s => have := HZ.out; rw [h0, hf] at this; simp at this
          obtain ⟨q, hqq⟩ : ∃ q, cntG (isPoolV xn) S.srv = q := ⟨_, rfl⟩
          have HQ : Hid (cntG (isPoolV xn) S.srv = q ∧ q ≤ n) := ⟨hqq, by rw [← hqq, ← HN.out.2.1]; exact List.length_filter_le _ _⟩
          have hqn : q ≤ n := HQ.out.2
          have HG2 : Hid (cGive S X.op ⟨cc, cp⟩ = if xs ≤ (q : Int) then none else (cRoom S).map (fun T => (cOpen T X.op ⟨xn, xs, xw, xf⟩ cc, X.op + 1))) := by
            show _ = _
            rw [HG.out]
            simp only
            rw [HPX.out]
            simp only
            rw [HFN0.out, HQ.out.1]
          have n1' := World.new_ne wy _ g2
          have hgpy : gp < wy.heap.size := Nat.lt_of_lt_of_le hgplt HBY.out.size
          have hgy : g < wy.heap.size := (Array.getElem?_eq_some_iff.1 HY.out.2.1).1
          clear hqq HG
          go_upto_region 8 with fail
          go_cut [46] (fun v wx => v = .bool (decide (xs ≤ (q : Int))) ∧ ∃ wv, Hid (Below wy.heap.size wy wv) ∧ wv = wx)
          case first =>
            go_region_held3 (fun w' => w'.cell? ⟨gp, 2, none⟩ = some (.slice so n sc) ∧ w'.cell? ⟨g, 0, none⟩ = some (.string xn) ∧ w'.cell? ⟨g, 1, none⟩ = some (.int .i64 xs)) (go_keep)
              ((go_at_call 101; refine (HC.out _ xn (nx_trans HBY.out ((Below.refl _ _).drew))).mono ?_; rintro e w5 ⟨rfl, hb5⟩; rw [HQ.out.1]; have HB5 : Hid (Below wy.heap.size wy w5) := nx_trans (Below.refl _ _).drew hb5; have q1 := (HB5.out.cell (p := ⟨gp, 2, none⟩) hgpy).trans g2; have q2 := (HB5.out.cell (p := ⟨g, 0, none⟩) hgy).trans p0; have q3 := (HB5.out.cell (p := ⟨g, 1, none⟩) hgy).trans p1; clear hb5))
            all_goals
              go_wp2_with fail
              go_meet
              exact ⟨rfl, _, HB5.out, rfl⟩
          case rest =>
            obtain ⟨rfl, wv, HB5, rfl⟩ := hcut
            have HBV : Hid (Below w.heap.size w wv) := nx_trans HBY.out HB5.out
            have HV : Hid (wv.heap[w.heap.size]? = some (bWt cc cp) ∧ wv.heap[g]? = some (bPl ⟨xn, xs, xw, xf⟩)) := ⟨(HB5.out.block _ (Array.getElem?_eq_some_iff.1 HY.out.1).1).trans HY.out.1, (HB5.out.block _ hgy).trans HY.out.2.1⟩
            clear g0 g1 g2 g3 g4 gz b0 b1 bz p0 p1 p2 p3 pz y0 y1 y2 y3 yz n1' hgpy hgy
            cases hcn : decide (xs ≤ (q : Int)) with
            | true =>
              have HR : Hid (cGive S X.op ⟨cc, cp⟩ = none) := by
                show _ = _
                rw [HG2.out, if_pos (of_decide_eq_true hcn)]
              go_wp2_with fail
              go_ret
              rw [HR.out]
              exact ⟨rfl, (Moved.refl HH.out).below HBV.out⟩
            | false =>
              have HG3 : Hid (cGive S X.op ⟨cc, cp⟩ = (cRoom S).map (fun T => (cOpen T X.op ⟨xn, xs, xw, xf⟩ cc, X.op + 1))) := by
                show _ = _
                rw [HG2.out, if_neg (of_decide_eq_false hcn)]
              have HRM := hideIt (dRoom gp S X F wv (HKD.out wv HBV.out) HID.out (by rw [HN.out.2.1]; omega))
              go_wp2_with fail
              refine HRM.out.mono ?_
              rintro e w6 ⟨rfl, hm⟩
              cases hro : cRoom S with
              | none =>
                rw [hro] at hm
                have KF : Hid (Moved w w6 gp S X F) := Moved.after HBV.out hm
                have HR : Hid (cGive S X.op ⟨cc, cp⟩ = none) := by
                  show _ = _
                  rw [HG3.out, hro]; rfl
                simp only [Option.isSome_none]
                clear hm hro
                go_wp2_with fail
                go_ret
                rw [HR.out]
                exact ⟨rfl, KF.out⟩
              | some T =>
                rw [hro] at hm
                have KF : Hid (Moved w w6 gp T X F) := Moved.after HBV.out hm
                have HR : Hid (cGive S X.op ⟨cc, cp⟩ = some (cOpen T X.op ⟨xn, xs, xw, xf⟩ cc, X.op + 1)) := by
                  show _ = _
                  rw [HG3.out, hro]; rfl
                have hTl : T.srv.length ≤ n := by rw [← HN.out.2.1]; exact room_len S T hro
                obtain ⟨_, _, _, hch⟩ := hm
                have h6b : w6.heap[w.heap.size]? = some (bWt cc cp) := (hch.block _ (Array.getElem?_eq_some_iff.1 HV.out.1).1 (HNF.out _ (Nat.le_refl _))).trans HV.out.1
                have h6p : w6.heap[g]? = some (bPl ⟨xn, xs, xw, xf⟩) := (hch.block _ (Array.getElem?_eq_some_iff.1 HV.out.2).1 (HNF.out _ HY.out.2.2)).trans HV.out.2
                obtain ⟨b0, b1, bz⟩ := blk2 h6b
                obtain ⟨p0, p1, p2, p3, pz⟩ := blk4d h6p
                obtain ⟨F1, hd1, hnx⟩ := KF.out.step
                have HOP := hideIt (dOpen gp ⟨xn, xs, xw, xf⟩ cc T X F1 w6 hd1 (by omega) hop)
                have HNX := hideIt hnx
                simp only [Option.isSome_some]
                clear hro hch h6b h6p hd1 hnx hTl
                go_wp2_with fail
                refine HOP.out.mono ?_
                rintro e w7 ⟨⟨x, rfl⟩, hm⟩
                have KG := hideIt (HNX.out w7 _ _ hm)
                clear hm b0 b1 bz p0 p1 p2 p3 pz
                go_wp2_with fail
                go_ret
                rw [HR.out]
                exact ⟨rfl, KG.out⟩
end Lw
end Go.Proofs.YtohbonfngeblkaaGreat
