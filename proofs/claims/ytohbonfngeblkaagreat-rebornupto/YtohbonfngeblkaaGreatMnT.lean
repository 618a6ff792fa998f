import Derived.Test.YtohbonfngeblkaaGreatMnS
import Derived.Test.YtohbonfngeblkaaGreatMnH
namespace Go.Proofs.YtohbonfngeblkaaGreat
open Go.RowKit
namespace Lw
open Co
set_option maxRecDepth 20000 in
set_option maxHeartbeats 8000000 in
theorem dAsk (gp : Nat) (c : Int) (name : ByteArray) (S : Sta) (X : Aux) (F : Nat → Prop) (w : World) (h : DeskAt w gp S X F) (hok : Ok S X.op) (hp1 : pot (S, X.op) + 1 ≤ 549755813888) :
    Calls Tryz.prog 60 #[.pointer (some ⟨gp, 0, none⟩), .int .i64 c, .string name] w fun e w' => AskG (cAsk S X.op c name) w w' gp X F e := by
  have hL := hok.inv.op0
  have hLn := hok.inv.len
  have HP1 := hideIt hp1
  unfold pot at hp1
  simp only at hp1
  have hq3 : S.srv.length ≤ 1099511627776 := by omega
  have hq4 : S.wts.length + 1 ≤ 1099511627776 := by omega
  have hgplt : gp < w.heap.size := h.lt gp h.gp
  have HIC := hideIt (cIsClient c w)
  have HBU := hideIt (dBusy gp c S X F w h hok.inv.nz hq3 (by omega))
  have HH := hideIt h
  have HOK := hideIt hok
  clear h hok hL hLn hp1
  obtain ⟨kb, hkb⟩ : ∃ b, okCli c = b := ⟨_, rfl⟩
  have HKB := hideIt hkb
  unfold okCli at hkb
  rw [hkb] at HIC
  obtain ⟨bb, hbb⟩ : ∃ b, ((S.srv.find? (isCliV c)).isSome || (S.wts.find? (isCliW c)).isSome) = b := ⟨_, rfl⟩
  have HBB := hideIt hbb
  rw [hbb] at HBU
  clear hkb hbb
  go_enter Tryz.func60, Tryz.ntmps60
  go_wp2_with fail
  refine HIC.out.mono ?_
  rintro e w1 ⟨rfl, h1⟩
  obtain rfl := h1.symm
  cases kb with
  | false =>
    have HR : Hid (cAsk S X.op c name = ⟨S, X.op, 0, 10⟩) := by
      show _ = _
      unfold cAsk; rw [if_pos HKB.out]
    go_wp2_with fail
    go_ret2
    rw [HR.out]
    exact ⟨rfl, Moved.refl HH.out⟩
  | true =>
    go_wp2_with fail
    refine HBU.out.mono ?_
    rintro e w1 ⟨rfl, hb1⟩
    have HB1 := hideIt hb1
    clear hb1
    cases bb with
    | true =>
      have HR : Hid (cAsk S X.op c name = ⟨S, X.op, 0, 11⟩) := by
        show _ = _
        unfold cAsk; rw [if_neg (by rw [HKB.out]; simp), if_pos HBB.out]
      go_wp2_with fail
      go_ret2
      rw [HR.out]
      exact ⟨rfl, (Moved.refl HH.out).below HB1.out⟩
    | false =>
      have HD1 : Hid (DeskAt w1 gp S X F) := HH.out.keep (G := fun _ => False) (Chg.of_below HB1.out) (fun _ _ h => h)
      obtain ⟨po, pc, so, sc, wo, wc, yo, yc, ho, hc, hx⟩ := HD1.out.ex
      obtain ⟨g0, g1, g2, g3, g4, gz⟩ := blk5d hx.box
      have HFD := hideIt (cFind po _ pc name S.pools w1 (own_row hx.p.own) rfl (by have := HOK.out.pools; unfold maxLen; omega))
      have HX := hideIt hx
      rw [findV_eq] at HFD
      obtain ⟨⟨⟨xn, xs, xw, xf⟩, okb⟩, hfe⟩ : ∃ y : Pl × Bool, ((S.pools.find? (isNameP name)).getD zPl, (S.pools.find? (isNameP name)).isSome) = y := ⟨_, rfl⟩
      have HFE : Hid ((S.pools.find? (isNameP name)).getD zPl = ⟨xn, xs, xw, xf⟩ ∧ (S.pools.find? (isNameP name)).isSome = okb) := ⟨congrArg Prod.fst hfe, congrArg Prod.snd hfe⟩
      rw [HFE.out.1, HFE.out.2] at HFD
      clear hx hfe
      go_wp2_with fail
      refine HFD.out.mono ?_
      rintro e w2 ⟨rfl, hb2⟩
      obtain ⟨W2, hW2⟩ : ∃ W2, W2 = w2.alloc (bPl ⟨xn, xs, xw, xf⟩) := ⟨_, rfl⟩
      have hbW : Below w1.heap.size w1 W2 := by rw [hW2]; exact nx_trans hb2 (nx_alloc _ _)
      have KW : Hid (W2 = w2.alloc (bPl ⟨xn, xs, xw, xf⟩) ∧ W2.heap[w2.heap.size]? = some (bPl ⟨xn, xs, xw, xf⟩) ∧ Below w1.heap.size w1 W2 ∧ ¬ F w2.heap.size) := ⟨hW2, by rw [hW2]; exact heap_alloc_at _ _ rfl, hbW, fun hf => by have := HD1.out.lt _ hf; have := hb2.size; omega⟩
      have KB : Hid (Below w.heap.size w W2) := nx_trans HB1.out hbW
      have HD2 : Hid (DeskAt W2 gp S X F) := HD1.out.keep (G := fun _ => False) (Chg.of_below hbW) (fun _ _ h => h)
      clear hb2 hW2 hbW g0 g1 g2 g3 g4 gz HFD
      go_upto_region 6 with fail
      rw [← KW.out.1]
      obtain ⟨p0, p1, p2, p3, pz⟩ := blk4d KW.out.2.1
      cases okb with
      | false =>
        have HR : Hid (cAsk S X.op c name = ⟨S, X.op, 0, 12⟩) := by
          show _ = _
          unfold cAsk; rw [if_neg (by rw [HKB.out]; simp), if_neg (by rw [HBB.out]; simp)]
          cases hf : S.pools.find? (isNameP name) with
          | none => rfl
          | some y => have := HFE.out.2; rw [hf] at this; simp at this
        go_wp2_with fail
        go_ret2
        rw [HR.out]
        exact ⟨rfl, (Moved.refl HH.out).below KB.out⟩
      | true =>
        have HPX : Hid (S.pools.find? (isNameP name) = some ⟨xn, xs, xw, xf⟩) := by
          show _ = _
          cases hf : S.pools.find? (isNameP name) with
          | none => have := HFE.out.2; rw [hf] at this; simp at this
          | some y => have := HFE.out.1; rw [hf] at this; rw [← this]; rfl
        have HAS : Hid (cAsk S X.op c name = match (cAsked S X.op c xn).1.srv.find? (isCliV c) with
            | some s => ⟨(cAsked S X.op c xn).1, (cAsked S X.op c xn).2, s.id, 0⟩
            | none => if xw < (cntG (isPoolW xn) (cAsked S X.op c xn).1.wts : Int) then ⟨cQuit (cAsked S X.op c xn).1 c, (cAsked S X.op c xn).2, 0, 13⟩
              else ⟨(cAsked S X.op c xn).1, (cAsked S X.op c xn).2, 0, 0⟩) := by
          show _ = _
          unfold cAsk; rw [if_neg (by rw [HKB.out]; simp), if_neg (by rw [HBB.out]; simp), HPX.out]
          rfl
        have HNW : Hid (∀ y ∈ S.wts, y.client ≠ c) := cNot (by
          have := HBB.out
          cases hh : (S.wts.find? (isCliW c)).isSome with
          | false => rfl
          | true => rw [hh] at this; simp at this)
        have HOJ : Hid (Ok (joined S c xn) X.op) := by
          refine ⟨HOK.out.inv.join HNW.out, ?_, HOK.out.pools⟩
          have := HP1.out
          unfold pot joined at *
          simp at this ⊢
          omega
        have HJ := hideIt (dJoin gp c xn S X F W2 HD2.out hq4)
        go_wp2_with fail
        refine HJ.out.mono ?_
        rintro e w3 ⟨⟨x, rfl⟩, hm3⟩
        obtain ⟨F3, hd3, hnx3⟩ := hm3.step
        have hsv := dServe gp (joined S c xn) X F3 w3 hd3 HOJ.out
        have hjl : (joined S c xn).wts.length = S.wts.length + 1 := by simp [joined]
        rw [hjl] at hsv
        have hok4 := HOJ.out.serve (S.wts.length + 1)
        obtain ⟨⟨T, t⟩, hT⟩ : ∃ y, cAsked S X.op c xn = y := ⟨_, rfl⟩
        have hT' : cServe (S.wts.length + 1) (joined S c xn) X.op = (T, t) := hT
        rw [hT'] at hsv hok4
        rw [hT] at HAS
        simp only at hsv hok4 HAS
        have HSV := hideIt hsv
        have HNX := hideIt hnx3
        have HOT := hideIt hok4
        clear hm3 hd3 hnx3 hsv hok4 hT hT' hjl p0 p1 p2 p3 pz HJ
        go_wp2_with fail
        refine HSV.out.mono ?_
        rintro e w4 ⟨⟨x, rfl⟩, hm⟩
        have KM : Hid (Moved W2 w4 gp T { X with op := t } F) := HNX.out _ _ _ hm
        obtain ⟨F4, hd4, hF4, hch⟩ := KM.out
        have hTl : T.srv.length ≤ 549755813888 := by have h1 := HOT.out.inv.len; have h2 := HOT.out.pot; unfold pot at h2; simp at h2; omega
        have hTw : T.wts.length ≤ 549755813888 := by have h1 := HOT.out.inv.op0; have h2 := HOT.out.pot; unfold pot at h2; simp at h2; omega
        have HP4 : Hid (w4.heap[w2.heap.size]? = some (bPl ⟨xn, xs, xw, xf⟩) ∧ w2.heap.size < w4.heap.size) := by
          have z := (Array.getElem?_eq_some_iff.1 KW.out.2.1).1
          exact ⟨(hch.block _ z KW.out.2.2.2).trans KW.out.2.1, Nat.lt_of_lt_of_le z hch.size⟩
        have hgp4 : gp < w4.heap.size := hd4.lt gp hd4.gp
        obtain ⟨po4, pc4, so4, sc4, wo4, wc4, yo4, yc4, ho4, hc4, hx4⟩ := hd4.ex
        obtain ⟨g0, g1, g2, g3, g4, gz⟩ := blk5d hx4.box
        have HB4 := hideIt (cHeldBy so4 _ sc4 c T.srv w4 (own_row hx4.s.own) rfl (by unfold maxLen; omega))
        have HZ := hideIt (orS_zero (p := isCliV c) HOT.out.inv.nz)
        obtain ⟨⟨x0, x1, x2, x3⟩, hx0⟩ : ∃ x, orS (T.srv.find? (isCliV c)) = x := ⟨_, rfl⟩
        rw [hx0] at HB4 HZ
        simp only at HZ
        have HX0 := hideIt hx0
        have HX4 := hideIt hx4
        clear hm hd4 hF4 hch hx4 hx0 HSV HNX
        go_wp2_with fail
        refine HB4.out.mono ?_
        rintro e w5 ⟨rfl, hb5⟩
        obtain ⟨W5, hW5⟩ : ∃ W5, W5 = w5.alloc (bSv x0 x1 x2 x3) := ⟨_, rfl⟩
        have hbW : Below w4.heap.size w4 W5 := by rw [hW5]; exact nx_trans hb5 (nx_alloc _ _)
        have KV : Hid (W5 = w5.alloc (bSv x0 x1 x2 x3) ∧ W5.heap[w5.heap.size]? = some (bSv x0 x1 x2 x3) ∧ Below w4.heap.size w4 W5) := ⟨hW5, by rw [hW5]; exact heap_alloc_at _ _ rfl, hbW⟩
        have KM5 : Hid (Moved W2 W5 gp T { X with op := t } F) := KM.out.below hbW
        have hd5 := HX4.out.nx hgp4 hbW
        have hp5 : W5.heap[w2.heap.size]? = some (bPl ⟨xn, xs, xw, xf⟩) := (hbW.block _ HP4.out.2).trans HP4.out.1
        clear hb5 hW5 hbW g0 g1 g2 g3 g4 gz HB4
        go_upto_region 11 with fail
        rw [← KV.out.1]
        obtain ⟨y0, y1, y2, y3, yz⟩ := blk4d KV.out.2.1
        obtain ⟨g0, g1, g2, g3, g4, gz⟩ := blk5d hd5
        obtain ⟨p0, p1, p2, p3, pz⟩ := blk4d hp5
        clear hd5 hp5
        cases hz : (x0 != 0) with
        | true =>
          have HR : Hid (cAsk S X.op c name = ⟨T, t, x0, 0⟩) := by
            show _ = _
            have h0 : (x0 == 0) = false := by simpa [bne] using hz
            rw [HAS.out]
            cases hf : T.srv.find? (isCliV c) with
            | none => have := HZ.out; rw [h0, hf] at this; simp at this
            | some s =>
              have := HX0.out
              rw [hf] at this
              simp only
              rw [show s.id = x0 by rw [show s = ⟨x0, x1, x2, x3⟩ from this]]
          go_wp2_with fail
          go_ret2
          rw [HR.out]
          exact ⟨rfl, Moved.after KB.out KM5.out⟩
        | false =>
          have HFN : Hid (T.srv.find? (isCliV c) = none) := by
            show _ = _
            have h0 : (x0 == 0) = true := by simpa [bne] using hz
            cases hf : T.srv.find? (isCliV c) with
            | none => rfl
            | some s => have := HZ.out; rw [h0, hf] at this; simp at this
          obtain ⟨q, hqq⟩ : ∃ q, cntG (isPoolW xn) T.wts = q := ⟨_, rfl⟩
          have HQ : Hid (cntG (isPoolW xn) T.wts = q) := hqq
          have hql : q ≤ 549755813888 := by
            rw [← hqq]
            have : cntG (isPoolW xn) T.wts ≤ T.wts.length := List.length_filter_le _ _
            omega
          have HWF : Hid (∀ u, Below W5.heap.size W5 u → Calls Tryz.prog 81 #[.slice wo4 T.wts.length wc4, .string xn] u fun e w' => e = .returned (.int .i64 (q : Int)) ∧ w' = u) := by
            intro u hu
            have := cWaitersFor wo4 T.wts.length wc4 xn T.wts u (((own_row HX4.out.t.own).nx KV.out.2.2).nx hu) rfl (by unfold maxLen; omega)
            rw [HQ.out] at this
            exact this
          have HAR : Hid (cAsk S X.op c name = if xw < (q : Int) then ⟨cQuit T c, t, 0, 13⟩ else ⟨T, t, 0, 0⟩) := by
            show _ = _
            rw [HAS.out, HFN.out]
            simp only
            rw [HQ.out]
          clear hqq HAS
          go_upto_region 13 with fail
          cases hcn : decide (xw < (q : Int)) with
          | true =>
            have HR : Hid (cAsk S X.op c name = ⟨cQuit T c, t, 0, 13⟩) := by
              show _ = _
              rw [HAR.out, if_pos (of_decide_eq_true hcn)]
            go_quiet ((go_at_call 81; exact Calls.quiet_of_same (HWF.out _ (below_drewN (Below.refl _ _) _))))
            obtain ⟨W6, hW6⟩ : ∃ W6, W5.drewN nq = W6 := ⟨_, rfl⟩
            have hb6 : Below W5.heap.size W5 W6 := by rw [← hW6]; exact below_drewN (Below.refl _ _) _
            rw [hW6]
            obtain ⟨F6, hd6, hnx6⟩ := (KM5.out.below hb6).step
            have HQT := hideIt (dQuit gp c T { X with op := t } F6 W6 hd6 (by omega))
            have HNX6 := hideIt hnx6
            clear hW6 hb6 hd6 hnx6 hcn g0 g1 g2 g3 g4 gz p0 p1 p2 p3 pz y0 y1 y2 y3 yz
            go_wp2_with fail
            refine HQT.out.mono ?_
            rintro e w7 ⟨⟨x, rfl⟩, hm⟩
            have KF := hideIt (Moved.after KB.out (HNX6.out _ _ _ hm))
            clear hm
            go_wp2_with fail
            go_ret2
            rw [HR.out]
            exact ⟨rfl, KF.out⟩
          | false =>
            have HR : Hid (cAsk S X.op c name = ⟨T, t, 0, 0⟩) := by
              show _ = _
              rw [HAR.out, if_neg (of_decide_eq_false hcn)]
            go_quiet ((go_at_call 81; exact Calls.quiet_of_same (HWF.out _ (below_drewN (Below.refl _ _) _))))
            go_wp2_with fail
            go_ret2
            rw [HR.out]
            exact ⟨rfl, Moved.after KB.out (KM5.out.below (below_drewN (Below.refl _ _) _))⟩
theorem pAsk (gp : Nat) (c : Int) (name : ByteArray) (S : Sta) (X : Aux) (F : Nat → Prop) (w : World) (h : DeskAt w gp S X F) (hok : Ok S X.op) (hp1 : pot (S, X.op) + 1 ≤ 549755813888) :
    Calls Tryz.prog 29 #[.pointer (some ⟨gp, 0, none⟩), .int .i64 c, .string name] w fun e w' => AskG (cAsk S X.op c name) w w' gp X F e := by
  have HA := hideIt (dAsk gp c name S X F w h hok hp1)
  clear h hok hp1
  go_enter Tryz.func29, Tryz.ntmps29
  go_wp2_with fail
  refine HA.out.mono ?_
  rintro e w1 ⟨rfl, hm⟩
  have KF := hideIt hm
  clear hm
  go_wp2_with fail
  go_ret2
  exact ⟨rfl, KF.out⟩
theorem pDone (gp : Nat) (c : Int) (S : Sta) (X : Aux) (F : Nat → Prop) (w : World) (h : DeskAt w gp S X F) (hok : Ok S X.op) :
    Calls Tryz.prog 30 #[.pointer (some ⟨gp, 0, none⟩), .int .i64 c] w fun e w' => DoneG (cDone S X.op c) w w' gp X F e := by
  have HA := hideIt (dDone gp c S X F w h hok)
  clear h hok
  go_enter Tryz.func30, Tryz.ntmps30
  go_wp2_with fail
  refine HA.out.mono ?_
  rintro e w1 ⟨rfl, hm⟩
  have KF := hideIt hm
  clear hm
  go_wp2_with fail
  go_ret
  exact ⟨rfl, KF.out⟩
theorem pLeave (gp : Nat) (c : Int) (S : Sta) (X : Aux) (F : Nat → Prop) (w : World) (h : DeskAt w gp S X F) (hok : Ok S X.op) :
    Calls Tryz.prog 36 #[.pointer (some ⟨gp, 0, none⟩), .int .i64 c] w fun e w' => DoneG (cLeave S X.op c) w w' gp X F e := by
  have HA := hideIt (dLeave gp c S X F w h hok)
  clear h hok
  go_enter Tryz.func36, Tryz.ntmps36
  go_wp2_with fail
  refine HA.out.mono ?_
  rintro e w1 ⟨rfl, hm⟩
  have KF := hideIt hm
  clear hm
  go_wp2_with fail
  go_ret
  exact ⟨rfl, KF.out⟩
theorem pCrash (gp : Nat) (id : Int) (S : Sta) (X : Aux) (F : Nat → Prop) (w : World) (h : DeskAt w gp S X F) (hok : Ok S X.op) :
    Calls Tryz.prog 20 #[.pointer (some ⟨gp, 0, none⟩), .int .i64 id] w fun e w' => DoneG (cCrash S X.op id) w w' gp X F e := by
  have HA := hideIt (dCrash gp id S X F w h hok)
  clear h hok
  go_enter Tryz.func20, Tryz.ntmps20
  go_wp2_with fail
  refine HA.out.mono ?_
  rintro e w1 ⟨rfl, hm⟩
  have KF := hideIt hm
  clear hm
  go_wp2_with fail
  go_ret
  exact ⟨rfl, KF.out⟩
end Lw
end Go.Proofs.YtohbonfngeblkaaGreat
namespace Go.Proofs.YtohbonfngeblkaaGreat
open Go.RowKit
namespace Co
def chC (ls : List Ln) : Nat → ByteArray → List Ln
  | 0, _ => []
  | f + 1, nm => match findC ls 2 nm with
    | none => []
    | some p => p :: chC ls f p.frm
theorem chn_bare (ls : List (Ln × Value)) : ∀ (f : Nat) (nm : ByteArray), chC (bare ls) f nm = bare (chn ls f nm)
  | 0, _ => rfl
  | f + 1, nm => by
    rw [chC, chn, findL_bare]
    cases findL ls 2 nm with
    | none => rfl
    | some p => simp only [Option.map_some]; rw [chn_bare ls f]; rfl
def lonC (all : List Ln) (most : Nat) : List Ln → Nat
  | [] => 0
  | p :: r => if most < (chC all 7 p.frm).length then p.place else lonC all most r
theorem lon_bare (all : List (Ln × Value)) (most : Nat) : ∀ ls : List (Ln × Value), lonC (bare all) most (bare ls) = longN all most ls
  | [] => rfl
  | p :: r => by
    have ih := lon_bare all most r
    simp only [bare, List.map_cons, lonC, longN] at ih ⊢
    rw [ih]
    have e := chn_bare all 7 p.1.frm
    simp only [bare] at e
    rw [e, List.length_map]
def baC (ls : List Ln) (frm : ByteArray) : Bool := frm.toList.isEmpty || (findC ls 2 frm).isSome
theorem ba_bare (ls : List (Ln × Value)) (frm : ByteArray) : baC (bare ls) frm = baseB ls frm := by
  unfold baC baseB
  rw [findL_bare, Option.isSome_map]
def noC (all : List Ln) : List Ln → Option Nat
  | [] => none
  | p :: r => if baC all p.frm = true then noC all r else some p.place
theorem no_bare (all : List (Ln × Value)) : ∀ ls : List (Ln × Value), noC (bare all) (bare ls) = noBase all ls
  | [] => rfl
  | p :: r => by
    have ih := no_bare all r
    have e := ba_bare all p.1.frm
    simp only [bare, List.map_cons, noC, noBase] at ih e ⊢
    rw [ih, e]
def chE (ls : List Ln) : Nat × Nat :=
  match noC ls ls with
  | some k => (6, k)
  | none => if 0 < lonC ls 6 ls then (7, lonC ls 6 ls) else if 0 < lonC ls 3 ls then (8, lonC ls 3 ls) else (0, 0)
theorem chE_bare (ls : List (Ln × Value)) : chE (bare ls) = chainE ls := by
  unfold chE chainE
  rw [no_bare, lon_bare, lon_bare]
  cases noBase ls ls <;> rfl
def chvC (key : Nat) (other : Int) : List Ln → Int
  | [] => other
  | p :: r => match valL p.sets key with | some n => n | none => chvC key other r
theorem chv_bare (key : Nat) (other : Int) : ∀ ls : List (Ln × Value), chvC key other (bare ls) = chv key other ls
  | [] => rfl
  | p :: r => by
    have ih := chv_bare key other r
    simp only [bare, List.map_cons, chvC, chv] at ih ⊢
    rw [ih]
    cases valL p.1.sets key <;> rfl
def valC (key : Nat) (other : Int) (ss : List (Nat × Nat)) (ch : List Ln) : Int := match valL ss key with | some n => n | none => chvC key other ch
theorem val_bare (key : Nat) (other : Int) (ss : List (Nat × Nat)) (ch : List (Ln × Value)) : valC key other ss (bare ch) = valOf key other ss ch := by
  unfold valC valOf
  rw [chv_bare]
  cases valL ss key <;> rfl
def plC (ls : List Ln) (l : Ln) : Pl :=
  ⟨l.name, valC 0 1 l.sets (chC ls 7 l.frm), valC 1 0 l.sets (chC ls 7 l.frm), valC 2 0 l.sets (chC ls 7 l.frm)⟩
theorem pl_bare (ls : List (Ln × Value)) (l : Ln) : plC (bare ls) l = poolC ls l := by
  unfold plC poolC
  rw [chn_bare, val_bare, val_bare, val_bare]
def stC (all : List Ln) (st : Int × List Pl) (l : Ln) : Int × List Pl :=
  if l.kind = 1 then (valC 3 0 l.sets [], st.2) else if l.kind = 3 then (st.1, insP (plC all l) st.2) else st
def tabC (all : List Ln) : Int × List Pl := all.foldl (stC all) (0, [])
theorem tab_bare (ls : List (Ln × Value)) : tabC (bare ls) = tabTo ls ls.length := by
  unfold tabC tabTo bare
  rw [List.take_length, List.foldl_map]
  congr 1
  funext st p
  unfold stC tabStep
  have e := pl_bare ls p.1
  have e2 := val_bare 3 0 p.1.sets []
  simp only [bare, List.map_nil] at e e2
  rw [e, e2]
structure Ans where
  tab : Int × List Pl
  err : Nat
  at' : Nat
def ans (s : ByteArray) : Ans :=
  if 1000 < s.size then ⟨(0, []), 1, 0⟩
  else if (rd s).err ≠ 0 then ⟨(0, []), (rd s).err, (rd s).at'⟩
  else if (chE (rd s).lines).1 ≠ 0 then ⟨(0, []), (chE (rd s).lines).1, (chE (rd s).lines).2⟩
  else ⟨tabC (rd s).lines, 0, 0⟩
theorem flds_1001 (p : ByteArray) (h : p.size ≤ 1000) : (flds p).length ≤ 1001 := Nat.le_trans (flds_len p) (by omega)
theorem rdC_small : ∀ (ps : List ByteArray) (i : Nat) (acc : List Ln), (∀ p ∈ ps, p.size ≤ 1000) → (∀ l ∈ acc, l.sets.length ≤ 1001) → ∀ l ∈ (rdC i acc ps).lines, l.sets.length ≤ 1001
  | [], i, acc, _, ha, l, hl => by
    rw [rdC] at hl
    split at hl
    · simp at hl
    · exact ha l hl
  | p :: r, i, acc, hp, ha, l, hl => by
    rw [rdC] at hl
    have hr : ∀ q ∈ r, q.size ≤ 1000 := fun q hq => hp q (List.mem_cons_of_mem _ hq)
    split at hl
    · exact rdC_small r _ _ hr ha l hl
    · split at hl
      · simp at hl
      · rename_i l1 hl1
        split at hl
        · refine rdC_small r _ _ hr ?_ l hl
          intro q hq
          rcases List.mem_append.1 hq with h | h
          · exact ha q h
          · simp at h
            subst h
            exact Nat.le_trans (parseF_kind hl1).2.2 (flds_1001 p (hp p List.mem_cons_self))
        · simp at hl
theorem rd_small (s : ByteArray) (hs : s.size ≤ 1000) : ∀ l ∈ (rd s).lines, l.sets.length ≤ 1001 :=
  rdC_small _ _ _ (fun p hp => Nat.le_trans (pieces_small s 10 p hp) hs) (by simp)
def Gave (a : Ans) (w w' : World) (e : Ending) : Prop :=
  ∃ vo vc, e = .returned (.tuple #[.agg #[.int .i64 a.tab.1, .slice vo a.tab.2.length vc], .int .i64 a.err, .int .i64 a.at']) ∧ w'.ownsRow w.heap.size 75 4 (.slice vo a.tab.2.length vc) a.tab.2.length (flatP a.tab.2) ∧ Below w.heap.size w w'
theorem gave_err {w w' : World} {e : Ending} {a : Ans} {x y : Int} (he : e = .returned (.tuple #[.agg #[.int .i64 0, .slice none 0 0], .int .i64 x, .int .i64 y])) (h : a.tab = (0, [])) (hx : x = a.err) (hy : y = a.at') (hb : Below w.heap.size w w') : Gave a w w' e := by
  refine ⟨none, 0, ?_, ?_, hb⟩
  · rw [he, h, hx, hy]; rfl
  · rw [h]; exact World.ownsRow_nil _ _ _ _
set_option maxRecDepth 20000 in
set_option maxHeartbeats 4000000 in
theorem compile_any (s : ByteArray) (w : World) (hs : s.size ≤ maxLen) :
    Calls Tryz.prog 49 #[.string s] w fun e w' => Gave (ans s) w w' e := by
  unfold maxLen at hs
  by_cases hlong : 1000 < s.size
  · have HA : Hid (ans s = ⟨(0, []), 1, 0⟩) := by show _ = _; rw [ans, if_pos hlong]
    have hli : (1000 : Int) < (s.size : Int) := by omega
    go_enter Tryz.func49, Tryz.ntmps49
    go_wp2_with fail
    refine bodyPost_ret (v := .tuple #[.agg #[.int .i64 0, .slice none 0 0], .int .i64 1, .int .i64 0]) (by simp [results, Tryz.results49, go_sem]) rfl ?_
    exact gave_err rfl (by rw [HA.out]) (by rw [HA.out]; rfl) (by rw [HA.out]; rfl) (nx_alloc _ _)
  · have hs2 : s.size ≤ 1000 := by omega
    have hli : ¬ (1000 : Int) < (s.size : Int) := by omega
    have H0 : Hid ((w.alloc (bTab 0 (.slice none 0 0))).heap[w.heap.size]? = some (bTab 0 (.slice none 0 0))) := heap_alloc_at' _ _ rfl
    have HRL := hideIt (readLines_any s (w.alloc (bTab 0 (.slice none 0 0))) hs2)
    have HSM := hideIt (rd_small s hs2)
    have HAA : Hid (ans s = if (rd s).err ≠ 0 then ⟨(0, []), (rd s).err, (rd s).at'⟩ else if (chE (rd s).lines).1 ≠ 0 then ⟨(0, []), (chE (rd s).lines).1, (chE (rd s).lines).2⟩ else ⟨tabC (rd s).lines, 0, 0⟩) := by
      show _ = _; rw [ans, if_neg hlong]
    clear hlong
    go_enter Tryz.func49, Tryz.ntmps49
    go_wp2_with fail
    refine HRL.out.mono ?_
    rintro e w1 (⟨hbad, rfl, hb1⟩ | ⟨ls, ao, cap, hz, hls, hn1, hn0, rfl, hl, hb1⟩)
    · obtain ⟨er, her⟩ : ∃ er, (rd s).err = er := ⟨_, rfl⟩
      obtain ⟨pl, hpl⟩ : ∃ pl, (rd s).at' = pl := ⟨_, rfl⟩
      rw [her] at hbad
      rw [her, hpl]
      have HA : Hid (ans s = ⟨(0, []), er, pl⟩) := by show _ = _; rw [HAA.out, her, hpl, if_pos hbad]
      have hh0 : w1.heap[w.heap.size]? = some (bTab 0 (.slice none 0 0)) := (hb1.block _ (by simp)).trans H0.out
      obtain ⟨e0, e1, ze⟩ := blk2 hh0
      have herb : ((er : Int) != 0) = true := by rw [bne_iff_ne]; omega
      have HB : Hid (Below w.heap.size w w1) := nx_trans (nx_alloc _ _) hb1
      clear hb1 her hpl hbad hh0
      go_wp2_with fail
      refine bodyPost_ret (v := .tuple #[.agg #[.int .i64 0, .slice none 0 0], .int .i64 er, .int .i64 pl]) (by simp [results, Tryz.results49, go_sem, e0, e1]) rfl ?_
      exact gave_err rfl (by rw [HA.out]) (by rw [HA.out]) (by rw [HA.out]) ((HB.out.setCell (Nat.le_refl _) _).setCell (Nat.le_refl _) _)
    · obtain ⟨n, hn⟩ : ∃ n, ls.length = n := ⟨_, rfl⟩
      have HSL : Hid (∀ p ∈ ls, p.1.sets.length ≤ 1001) := by
        intro p hp
        exact HSM.out p.1 (by rw [hls]; exact List.mem_map_of_mem hp)
      have HAB : Hid (ans s = if (chainE ls).1 ≠ 0 then ⟨(0, []), (chainE ls).1, (chainE ls).2⟩ else ⟨tabTo ls n, 0, 0⟩) := by
        show _ = _
        rw [HAA.out, if_neg (by simp [hz]), hls, chE_bare, tab_bare, hn]
      rw [hn] at hl hn1 ⊢
      have HL : Hid (LinesAt w1 (.slice ao n cap) ls ∧ ls.length = n) := ⟨hl, hn⟩
      have hh0 : w1.heap[w.heap.size]? = some (bTab 0 (.slice none 0 0)) := (hb1.block _ (by simp)).trans H0.out
      have hlt1 : w.heap.size < w1.heap.size := sz_lt hb1
      have HB : Hid (Below w.heap.size w w1 ∧ w1.heap[w.heap.size]? = some (bTab 0 (.slice none 0 0))) := ⟨nx_trans (nx_alloc _ _) hb1, hh0⟩
      have HCF := hideIt (chainFault_any ao cap n ls w1 hl hn hn1)
      clear hl hn hls hz hb1 hh0 HAA
      go_wp2_with fail
      refine HCF.out.mono ?_
      rintro e w2 ⟨rfl, hb2⟩
      obtain ⟨⟨er, pl⟩, hce⟩ : ∃ ce, chainE ls = ce := ⟨_, rfl⟩
      rw [hce]
      simp only
      have hh0 : w2.heap[w.heap.size]? = some (bTab 0 (.slice none 0 0)) := (hb2.block _ hlt1).trans HB.out.2
      by_cases her : er = 0
      · have HA : Hid (ans s = ⟨tabTo ls n, 0, 0⟩) := by show _ = _; rw [HAB.out, hce, if_neg (by simp [her])]
        have HTO := hideIt (tableOf_any ao cap n ls w2 (HL.out.1.nx hb2) HL.out.2 hn1 HSL.out)
        have HB2 : Hid (Below w.heap.size w w2 ∧ w.heap.size < w2.heap.size ∧ w2.heap[w.heap.size]? = some (bTab 0 (.slice none 0 0))) := ⟨nx_trans HB.out.1 hb2, Nat.lt_of_lt_of_le hlt1 hb2.size, hh0⟩
        subst her
        clear hce hh0 hb2
        go_wp2_with fail
        refine HTO.out.mono ?_
        rintro e w3 ⟨vo, vc, rfl, hown, hb3⟩
        have hh0 : w3.heap[w.heap.size]? = some (bTab 0 (.slice none 0 0)) := (hb3.block _ HB2.out.2.1).trans HB2.out.2.2
        obtain ⟨e0, e1, ze⟩ := blk2 hh0
        obtain ⟨⟨b, ps⟩, htb⟩ : ∃ tb, tabTo ls n = tb := ⟨_, rfl⟩
        rw [htb] at HA hown ⊢
        simp only at hown ⊢
        obtain ⟨m, hm⟩ : ∃ m, ps.length = m := ⟨_, rfl⟩
        rw [hm] at hown ⊢
        have HO : Hid (w3.ownsRow w2.heap.size 75 4 (.slice vo m vc) m (flatP ps) ∧ Below w.heap.size w w3 ∧ ps.length = m) := ⟨hown, nx_trans HB2.out.1 hb3, hm⟩
        clear hown hb3 htb hm hh0
        go_wp2_with fail
        refine bodyPost_ret (v := .tuple #[.agg #[.int .i64 b, .slice vo m vc], .int .i64 0, .int .i64 0]) (by simp [results, Tryz.results49, go_sem, e0, e1]) rfl ⟨vo, vc, ?_, ?_, ?_⟩
        · rw [HA.out]; simp only; rw [HO.out.2.2]; rfl
        · rw [HA.out]; simp only; rw [HO.out.2.2]
          exact own_mono (ownsRow_setCell_below (ownsRow_setCell_below HO.out.1 (by show w.heap.size < _; exact HB2.out.2.1) _) (by show w.heap.size < _; exact HB2.out.2.1) _) (Nat.le_of_lt HB2.out.2.1)
        · exact (HO.out.2.1.setCell (Nat.le_refl _) _).setCell (Nat.le_refl _) _
      · have HA : Hid (ans s = ⟨(0, []), er, pl⟩) := by show _ = _; rw [HAB.out, hce, if_pos her]
        obtain ⟨e0, e1, ze⟩ := blk2 hh0
        have herb : ((er : Int) != 0) = true := by rw [bne_iff_ne]; omega
        have HB2 : Hid (Below w.heap.size w w2) := nx_trans HB.out.1 hb2
        clear hce her hh0 hb2
        go_wp2_with fail
        refine bodyPost_ret (v := .tuple #[.agg #[.int .i64 0, .slice none 0 0], .int .i64 er, .int .i64 pl]) (by simp [results, Tryz.results49, go_sem, e0, e1]) rfl ?_
        exact gave_err rfl (by rw [HA.out]) (by rw [HA.out]) (by rw [HA.out]) ((HB2.out.setCell (Nat.le_refl _) _).setCell (Nat.le_refl _) _)
set_option maxRecDepth 20000 in
set_option maxHeartbeats 4000000 in
theorem pcompile_any (s : ByteArray) (w : World) (hs : s.size ≤ maxLen) :
    Calls Tryz.prog 25 #[.string s] w fun e w' => Gave (ans s) w w' e := by
  have HC := hideIt (compile_any s (w.alloc (bTab 0 (.slice none 0 0))) hs)
  have H0 : Hid ((w.alloc (bTab 0 (.slice none 0 0))).heap[w.heap.size]? = some (bTab 0 (.slice none 0 0))) := heap_alloc_at' _ _ rfl
  unfold maxLen at hs
  go_enter Tryz.func25, Tryz.ntmps25
  go_wp2_with fail
  refine HC.out.mono ?_
  rintro e w1 ⟨vo, vc, rfl, hown, hb1⟩
  obtain ⟨⟨⟨b, ps⟩, er, pl⟩, ha⟩ : ∃ a, ans s = a := ⟨_, rfl⟩
  rw [ha] at hown ⊢
  simp only at hown ⊢
  obtain ⟨m, hm⟩ : ∃ m, ps.length = m := ⟨_, rfl⟩
  rw [hm] at hown ⊢
  have hh0 : w1.heap[w.heap.size]? = some (bTab 0 (.slice none 0 0)) := (hb1.block _ (by simp)).trans H0.out
  obtain ⟨e0, e1, ze⟩ := blk2 hh0
  have HO : Hid (w1.ownsRow (w.heap.size + 1) 75 4 (.slice vo m vc) m (flatP ps) ∧ Below w.heap.size w w1 ∧ ps.length = m) := ⟨by simpa using hown, nx_trans (nx_alloc _ _) hb1, hm⟩
  have HA := hideIt ha
  clear hown hb1 hm hh0 ha
  go_wp2_with fail
  refine bodyPost_ret (v := .tuple #[.agg #[.int .i64 b, .slice vo m vc], .int .i64 er, .int .i64 pl]) (by simp [results, Tryz.results25, go_sem, e0, e1]) rfl ⟨vo, vc, ?_, ?_, ?_⟩
  · rw [HA.out]; simp only; rw [HO.out.2.2]
  · rw [HA.out]; simp only; rw [HO.out.2.2]
    exact own_mono (ownsRow_setCell_below (ownsRow_setCell_below HO.out.1 (by show w.heap.size < _; omega) _) (by show w.heap.size < _; omega) _) (by omega)
  · exact (HO.out.2.1.setCell (Nat.le_refl _) _).setCell (Nat.le_refl _) _
end Co
end Go.Proofs.YtohbonfngeblkaaGreat
