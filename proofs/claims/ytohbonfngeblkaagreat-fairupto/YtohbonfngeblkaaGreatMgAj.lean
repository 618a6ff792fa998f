import Derived.Test.YtohbonfngeblkaaGreatMgAi
namespace Go.Proofs.YtohbonfngeblkaaGreat
open Go.RowKit
namespace Lw
open Co
set_option maxRecDepth 20000 in
set_option maxHeartbeats 8000000 in
theorem dAsk (gp : Nat) (c : Int) (name : ByteArray) (S : Sta) (X : Aux) (F : Nat → Prop) (w : World) (h : DeskAt w gp S X F) (hok : Ok S X.op) (hp1 : pot (S, X.op) + 1 ≤ 549755813888) :
    Calls Tryz.prog 60 #[.pointer (some ⟨gp, 0, none⟩), .int .i64 c, .string name] w fun e w' => AskG (cAsk S X.op c name) w w' gp X F e := by
  have hL := hok.inv.op0
  have hLn := hok.inv.len
  have HP1 := hideIt hp1
  unfold pot at hp1
  simp only at hp1
  have hq3 : S.srv.length ≤ 1099511627776 := by omega
  have hq4 : S.wts.length + 1 ≤ 1099511627776 := by omega
  have hgplt : gp < w.heap.size := h.lt gp h.gp
  have HIC := hideIt (cIsClient c w)
  have HBU := hideIt (dBusy gp c S X F w h hok.inv.nz hq3 (by omega))
  have HH := hideIt h
  have HOK := hideIt hok
  clear h hok hL hLn hp1
  obtain ⟨kb, hkb⟩ : ∃ b, okCli c = b := ⟨_, rfl⟩
  have HKB := hideIt hkb
  unfold okCli at hkb
  rw [hkb] at HIC
  obtain ⟨bb, hbb⟩ : ∃ b, ((S.srv.find? (isCliV c)).isSome || (S.wts.find? (isCliW c)).isSome) = b := ⟨_, rfl⟩
  have HBB := hideIt hbb
  rw [hbb] at HBU
  clear hkb hbb
  go_enter Tryz.func60, Tryz.ntmps60
  go_wp2_with fail
  refine HIC.out.mono ?_
  rintro e w1 ⟨rfl, h1⟩
  obtain rfl := h1.symm
  cases kb with
  | false =>
    have HR : Hid (cAsk S X.op c name = ⟨S, X.op, 0, 10⟩) := by
      show _ = _
      unfold cAsk; rw [if_pos HKB.out]
    go_wp2_with fail
    go_ret2
    rw [HR.out]
    exact ⟨rfl, Moved.refl HH.out⟩
  | true =>
    go_wp2_with fail
    refine HBU.out.mono ?_
    rintro e w1 ⟨rfl, hb1⟩
    have HB1 := hideIt hb1
    clear hb1
    cases bb with
    | true =>
      have HR : Hid (cAsk S X.op c name = ⟨S, X.op, 0, 11⟩) := by
        show _ = _
        unfold cAsk; rw [if_neg (by rw [HKB.out]; simp), if_pos HBB.out]
      go_wp2_with fail
      go_ret2
      rw [HR.out]
      exact ⟨rfl, (Moved.refl HH.out).below HB1.out⟩
    | false =>
      have HD1 : Hid (DeskAt w1 gp S X F) := HH.out.keep (G := fun _ => False) (Chg.of_below HB1.out) (fun _ _ h => h)
      obtain ⟨po, pc, so, sc, wo, wc, yo, yc, ho, hc, hx⟩ := HD1.out.ex
      obtain ⟨g0, g1, g2, g3, g4, gz⟩ := blk5d hx.box
      have HFD := hideIt (cFind po _ pc name S.pools w1 (own_row hx.p.own) rfl (by have := HOK.out.pools; unfold maxLen; omega))
      have HX := hideIt hx
      rw [findV_eq] at HFD
      obtain ⟨⟨⟨xn, xs, xw, xf⟩, okb⟩, hfe⟩ : ∃ y : Pl × Bool, ((S.pools.find? (isNameP name)).getD zPl, (S.pools.find? (isNameP name)).isSome) = y := ⟨_, rfl⟩
      have HFE : Hid ((S.pools.find? (isNameP name)).getD zPl = ⟨xn, xs, xw, xf⟩ ∧ (S.pools.find? (isNameP name)).isSome = okb) := ⟨congrArg Prod.fst hfe, congrArg Prod.snd hfe⟩
      rw [HFE.out.1, HFE.out.2] at HFD
      clear hx hfe
      go_wp2_with fail
      refine HFD.out.mono ?_
      rintro e w2 ⟨rfl, hb2⟩
      obtain ⟨W2, hW2⟩ : ∃ W2, W2 = w2.alloc (bPl ⟨xn, xs, xw, xf⟩) := ⟨_, rfl⟩
      have hbW : Below w1.heap.size w1 W2 := by rw [hW2]; exact nx_trans hb2 (nx_alloc _ _)
      have KW : Hid (W2 = w2.alloc (bPl ⟨xn, xs, xw, xf⟩) ∧ W2.heap[w2.heap.size]? = some (bPl ⟨xn, xs, xw, xf⟩) ∧ Below w1.heap.size w1 W2 ∧ ¬ F w2.heap.size) := ⟨hW2, by rw [hW2]; exact heap_alloc_at _ _ rfl, hbW, fun hf => by have := HD1.out.lt _ hf; have := hb2.size; omega⟩
      have KB : Hid (Below w.heap.size w W2) := nx_trans HB1.out hbW
      have HD2 : Hid (DeskAt W2 gp S X F) := HD1.out.keep (G := fun _ => False) (Chg.of_below hbW) (fun _ _ h => h)
      clear hb2 hW2 hbW g0 g1 g2 g3 g4 gz HFD
      go_upto_region 6 with fail
      rw [← KW.out.1]
      obtain ⟨p0, p1, p2, p3, pz⟩ := blk4d KW.out.2.1
      cases okb with
      | false =>
        have HR : Hid (cAsk S X.op c name = ⟨S, X.op, 0, 12⟩) := by
          show _ = _
          unfold cAsk; rw [if_neg (by rw [HKB.out]; simp), if_neg (by rw [HBB.out]; simp)]
          cases hf : S.pools.find? (isNameP name) with
          | none => rfl
          | some y => have := HFE.out.2; rw [hf] at this; simp at this
        go_wp2_with fail
        go_ret2
        rw [HR.out]
        exact ⟨rfl, (Moved.refl HH.out).below KB.out⟩
      | true =>
        have HPX : Hid (S.pools.find? (isNameP name) = some ⟨xn, xs, xw, xf⟩) := by
          show _ = _
          cases hf : S.pools.find? (isNameP name) with
          | none => have := HFE.out.2; rw [hf] at this; simp at this
          | some y => have := HFE.out.1; rw [hf] at this; rw [← this]; rfl
        have HAS : Hid (cAsk S X.op c name = match (cAsked S X.op c xn).1.srv.find? (isCliV c) with
            | some s => ⟨(cAsked S X.op c xn).1, (cAsked S X.op c xn).2, s.id, 0⟩
            | none => if xw < (cntG (isPoolW xn) (cAsked S X.op c xn).1.wts : Int) then ⟨cQuit (cAsked S X.op c xn).1 c, (cAsked S X.op c xn).2, 0, 13⟩
              else ⟨(cAsked S X.op c xn).1, (cAsked S X.op c xn).2, 0, 0⟩) := by
          show _ = _
          unfold cAsk; rw [if_neg (by rw [HKB.out]; simp), if_neg (by rw [HBB.out]; simp), HPX.out]
          rfl
        have HNW : Hid (∀ y ∈ S.wts, y.client ≠ c) := cNot (by
          have := HBB.out
          cases hh : (S.wts.find? (isCliW c)).isSome with
          | false => rfl
          | true => rw [hh] at this; simp at this)
        have HOJ : Hid (Ok (joined S c xn) X.op) := by
          refine ⟨HOK.out.inv.join HNW.out, ?_, HOK.out.pools⟩
          have := HP1.out
          unfold pot joined at *
          simp at this ⊢
          omega
        have HJ := hideIt (dJoin gp c xn S X F W2 HD2.out hq4)
        go_wp2_with fail
        refine HJ.out.mono ?_
        rintro e w3 ⟨⟨x, rfl⟩, hm3⟩
        obtain ⟨F3, hd3, hnx3⟩ := hm3.step
        have hsv := dServe gp (joined S c xn) X F3 w3 hd3 HOJ.out
        have hjl : (joined S c xn).wts.length = S.wts.length + 1 := by simp [joined]
        rw [hjl] at hsv
        have hok4 := HOJ.out.serve (S.wts.length + 1)
        obtain ⟨⟨T, t⟩, hT⟩ : ∃ y, cAsked S X.op c xn = y := ⟨_, rfl⟩
        have hT' : cServe (S.wts.length + 1) (joined S c xn) X.op = (T, t) := hT
        rw [hT'] at hsv hok4
        rw [hT] at HAS
        simp only at hsv hok4 HAS
        have HSV := hideIt hsv
        have HNX := hideIt hnx3
        have HOT := hideIt hok4
        clear hm3 hd3 hnx3 hsv hok4 hT hT' hjl p0 p1 p2 p3 pz HJ
        go_wp2_with fail
        refine HSV.out.mono ?_
        rintro e w4 ⟨⟨x, rfl⟩, hm⟩
        have KM : Hid (Moved W2 w4 gp T { X with op := t } F) := HNX.out _ _ _ hm
        obtain ⟨F4, hd4, hF4, hch⟩ := KM.out
        have hTl : T.srv.length ≤ 549755813888 := by have h1 := HOT.out.inv.len; have h2 := HOT.out.pot; unfold pot at h2; simp at h2; omega
        have hTw : T.wts.length ≤ 549755813888 := by have h1 := HOT.out.inv.op0; have h2 := HOT.out.pot; unfold pot at h2; simp at h2; omega
        have HP4 : Hid (w4.heap[w2.heap.size]? = some (bPl ⟨xn, xs, xw, xf⟩) ∧ w2.heap.size < w4.heap.size) := by
          have z := (Array.getElem?_eq_some_iff.1 KW.out.2.1).1
          exact ⟨(hch.block _ z KW.out.2.2.2).trans KW.out.2.1, Nat.lt_of_lt_of_le z hch.size⟩
        have hgp4 : gp < w4.heap.size := hd4.lt gp hd4.gp
        obtain ⟨po4, pc4, so4, sc4, wo4, wc4, yo4, yc4, ho4, hc4, hx4⟩ := hd4.ex
        obtain ⟨g0, g1, g2, g3, g4, gz⟩ := blk5d hx4.box
        have HB4 := hideIt (cHeldBy so4 _ sc4 c T.srv w4 (own_row hx4.s.own) rfl (by unfold maxLen; omega))
        have HZ := hideIt (orS_zero (p := isCliV c) HOT.out.inv.nz)
        obtain ⟨⟨x0, x1, x2, x3⟩, hx0⟩ : ∃ x, orS (T.srv.find? (isCliV c)) = x := ⟨_, rfl⟩
        rw [hx0] at HB4 HZ
        simp only at HZ
        have HX0 := hideIt hx0
        have HX4 := hideIt hx4
        clear hm hd4 hF4 hch hx4 hx0 HSV HNX
        go_wp2_with fail
        refine HB4.out.mono ?_
        rintro e w5 ⟨rfl, hb5⟩
        obtain ⟨W5, hW5⟩ : ∃ W5, W5 = w5.alloc (bSv x0 x1 x2 x3) := ⟨_, rfl⟩
        have hbW : Below w4.heap.size w4 W5 := by rw [hW5]; exact nx_trans hb5 (nx_alloc _ _)
        have KV : Hid (W5 = w5.alloc (bSv x0 x1 x2 x3) ∧ W5.heap[w5.heap.size]? = some (bSv x0 x1 x2 x3) ∧ Below w4.heap.size w4 W5) := ⟨hW5, by rw [hW5]; exact heap_alloc_at _ _ rfl, hbW⟩
        have KM5 : Hid (Moved W2 W5 gp T { X with op := t } F) := KM.out.below hbW
        have hd5 := HX4.out.nx hgp4 hbW
        have hp5 : W5.heap[w2.heap.size]? = some (bPl ⟨xn, xs, xw, xf⟩) := (hbW.block _ HP4.out.2).trans HP4.out.1
        clear hb5 hW5 hbW g0 g1 g2 g3 g4 gz HB4
        go_upto_region 11 with fail
        rw [← KV.out.1]
        obtain ⟨y0, y1, y2, y3, yz⟩ := blk4d KV.out.2.1
        obtain ⟨g0, g1, g2, g3, g4, gz⟩ := blk5d hd5
        obtain ⟨p0, p1, p2, p3, pz⟩ := blk4d hp5
        clear hd5 hp5
        cases hz : (x0 != 0) with
        | true =>
          have HR : Hid (cAsk S X.op c name = ⟨T, t, x0, 0⟩) := by
            show _ = _
            have h0 : (x0 == 0) = false := by simpa [bne] using hz
            rw [HAS.out]
            cases hf : T.srv.find? (isCliV c) with
            | none => have := HZ.out; rw [h0, hf] at this; simp at this
            | some s =>
              have := HX0.out
              rw [hf] at this
              simp only
              rw [show s.id = x0 by rw [show s = ⟨x0, x1, x2, x3⟩ from this]]
          go_wp2_with fail
          go_ret2
          rw [HR.out]
          exact ⟨rfl, Moved.after KB.out KM5.out⟩
        | false =>
          have HFN : Hid (T.srv.find? (isCliV c) = none) := by
            show _ = _
            have h0 : (x0 == 0) = true := by simpa [bne] using hz
            cases hf : T.srv.find? (isCliV c) with
            | none => rfl
            | some s => have := HZ.out; rw [h0, hf] at this; simp at this
          obtain ⟨q, hqq⟩ : ∃ q, cntG (isPoolW xn) T.wts = q := ⟨_, rfl⟩
          have HQ : Hid (cntG (isPoolW xn) T.wts = q) := hqq
          have hql : q ≤ 549755813888 := by
            rw [← hqq]
            have : cntG (isPoolW xn) T.wts ≤ T.wts.length := List.length_filter_le _ _
            omega
          have HWF : Hid (∀ u, Below W5.heap.size W5 u → Calls Tryz.prog 81 #[.slice wo4 T.wts.length wc4, .string xn] u fun e w' => e = .returned (.int .i64 (q : Int)) ∧ w' = u) := by
            intro u hu
            have := cWaitersFor wo4 T.wts.length wc4 xn T.wts u (((own_row HX4.out.t.own).nx KV.out.2.2).nx hu) rfl (by unfold maxLen; omega)
            rw [HQ.out] at this
            exact this
          have HAR : Hid (cAsk S X.op c name = if xw < (q : Int) then ⟨cQuit T c, t, 0, 13⟩ else ⟨T, t, 0, 0⟩) := by
            show _ = _
            rw [HAS.out, HFN.out]
            simp only
            rw [HQ.out]
          clear hqq HAS
          go_upto_region 13 with fail
          cases hcn : decide (xw < (q : Int)) with
          | true =>
            have HR : Hid (cAsk S X.op c name = ⟨cQuit T c, t, 0, 13⟩) := by
              show _ = _
              rw [HAR.out, if_pos (of_decide_eq_true hcn)]
            go_quiet ((go_at_call 81; exact Calls.quiet_of_same (HWF.out _ (below_drewN (Below.refl _ _) _))))
            obtain ⟨W6, hW6⟩ : ∃ W6, W5.drewN nq = W6 := ⟨_, rfl⟩
            have hb6 : Below W5.heap.size W5 W6 := by rw [← hW6]; exact below_drewN (Below.refl _ _) _
            rw [hW6]
            obtain ⟨F6, hd6, hnx6⟩ := (KM5.out.below hb6).step
            have HQT := hideIt (dQuit gp c T { X with op := t } F6 W6 hd6 (by omega))
            have HNX6 := hideIt hnx6
            clear hW6 hb6 hd6 hnx6 hcn g0 g1 g2 g3 g4 gz p0 p1 p2 p3 pz y0 y1 y2 y3 yz
            go_wp2_with fail
            refine HQT.out.mono ?_
            rintro e w7 ⟨⟨x, rfl⟩, hm⟩
            have KF := hideIt (Moved.after KB.out (HNX6.out _ _ _ hm))
            clear hm
            go_wp2_with fail
            go_ret2
            rw [HR.out]
            exact ⟨rfl, KF.out⟩
          | false =>
            have HR : Hid (cAsk S X.op c name = ⟨T, t, 0, 0⟩) := by
              show _ = _
              rw [HAR.out, if_neg (of_decide_eq_false hcn)]
            go_quiet ((go_at_call 81; exact Calls.quiet_of_same (HWF.out _ (below_drewN (Below.refl _ _) _))))
            go_wp2_with fail
            go_ret2
            rw [HR.out]
            exact ⟨rfl, Moved.after KB.out (KM5.out.below (below_drewN (Below.refl _ _) _))⟩
theorem pAsk (gp : Nat) (c : Int) (name : ByteArray) (S : Sta) (X : Aux) (F : Nat → Prop) (w : World) (h : DeskAt w gp S X F) (hok : Ok S X.op) (hp1 : pot (S, X.op) + 1 ≤ 549755813888) :
    Calls Tryz.prog 29 #[.pointer (some ⟨gp, 0, none⟩), .int .i64 c, .string name] w fun e w' => AskG (cAsk S X.op c name) w w' gp X F e := by
  have HA := hideIt (dAsk gp c name S X F w h hok hp1)
  clear h hok hp1
  go_enter Tryz.func29, Tryz.ntmps29
  go_wp2_with fail
  refine HA.out.mono ?_
  rintro e w1 ⟨rfl, hm⟩
  have KF := hideIt hm
  clear hm
  go_wp2_with fail
  go_ret2
  exact ⟨rfl, KF.out⟩
theorem pDone (gp : Nat) (c : Int) (S : Sta) (X : Aux) (F : Nat → Prop) (w : World) (h : DeskAt w gp S X F) (hok : Ok S X.op) :
    Calls Tryz.prog 30 #[.pointer (some ⟨gp, 0, none⟩), .int .i64 c] w fun e w' => DoneG (cDone S X.op c) w w' gp X F e := by
  have HA := hideIt (dDone gp c S X F w h hok)
  clear h hok
  go_enter Tryz.func30, Tryz.ntmps30
  go_wp2_with fail
  refine HA.out.mono ?_
  rintro e w1 ⟨rfl, hm⟩
  have KF := hideIt hm
  clear hm
  go_wp2_with fail
  go_ret
  exact ⟨rfl, KF.out⟩
theorem pLeave (gp : Nat) (c : Int) (S : Sta) (X : Aux) (F : Nat → Prop) (w : World) (h : DeskAt w gp S X F) (hok : Ok S X.op) :
    Calls Tryz.prog 36 #[.pointer (some ⟨gp, 0, none⟩), .int .i64 c] w fun e w' => DoneG (cLeave S X.op c) w w' gp X F e := by
  have HA := hideIt (dLeave gp c S X F w h hok)
  clear h hok
  go_enter Tryz.func36, Tryz.ntmps36
  go_wp2_with fail
  refine HA.out.mono ?_
  rintro e w1 ⟨rfl, hm⟩
  have KF := hideIt hm
  clear hm
  go_wp2_with fail
  go_ret
  exact ⟨rfl, KF.out⟩
theorem pCrash (gp : Nat) (id : Int) (S : Sta) (X : Aux) (F : Nat → Prop) (w : World) (h : DeskAt w gp S X F) (hok : Ok S X.op) :
    Calls Tryz.prog 20 #[.pointer (some ⟨gp, 0, none⟩), .int .i64 id] w fun e w' => DoneG (cCrash S X.op id) w w' gp X F e := by
  have HA := hideIt (dCrash gp id S X F w h hok)
  clear h hok
  go_enter Tryz.func20, Tryz.ntmps20
  go_wp2_with fail
  refine HA.out.mono ?_
  rintro e w1 ⟨rfl, hm⟩
  have KF := hideIt hm
  clear hm
  go_wp2_with fail
  go_ret
  exact ⟨rfl, KF.out⟩
end Lw
end Go.Proofs.YtohbonfngeblkaaGreat
