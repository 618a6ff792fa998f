import Derived.Test.YtohbonfngeblkaaGreatMgAh
namespace Go.Proofs.YtohbonfngeblkaaGreat
open Go.RowKit
namespace Lw
open Co
theorem cNot {l : List Wtr} {c : Int} (h : (l.find? (isCliW c)).isSome = false) : ∀ y ∈ l, y.client ≠ c := by
  intro y hy e
  have := none_of_find h y hy
  simp [isCliW, e] at this
theorem Inv.join {S : Sta} {op : Int} (h : Inv S op) {c : Int} {nm : ByteArray} (hn : ∀ y ∈ S.wts, y.client ≠ c) : Inv (joined S c nm) op := by
  refine ⟨h.ids, h.low, h.op0, ?_⟩
  show (S.wts ++ [(⟨c, nm⟩ : Wtr)]).Pairwise _
  rw [List.pairwise_append]
  refine ⟨h.cli, by simp, fun a ha b hb => ?_⟩
  rw [List.mem_singleton.1 hb]
  exact hn a ha
theorem inv_filterW {S : Sta} {op : Int} (h : Inv S op) (p : Wtr → Bool) : Inv { S with wts := S.wts.filter p } op := ⟨h.ids, h.low, h.op0, h.cli.sublist List.filter_sublist⟩
theorem inv_filterV {S : Sta} {op : Int} (h : Inv S op) (p : Srv → Bool) : Inv { S with srv := S.srv.filter p } op := ⟨h.ids.sublist List.filter_sublist, fun x hx => h.low x (List.mem_filter.1 hx).1, h.op0, h.cli⟩
theorem inv_hand {S : Sta} {op : Int} (h : Inv S op) (id c : Int) : Inv (cHand S id c) op := by
  have he : ∀ x : Srv, (if x.id = id then { x with client := c } else x).id = x.id := fun x => by split <;> rfl
  refine ⟨?_, ?_, h.op0, h.cli⟩
  · show (S.srv.map _).Pairwise _
    rw [List.pairwise_map]
    exact h.ids.imp (fun {a b} hab => by rw [he, he]; exact hab)
  · intro x hx
    obtain ⟨y, hy, rfl⟩ := List.mem_map.1 hx
    rw [he]
    exact h.low y hy
theorem Ok.serve {S : Sta} {op : Int} (h : Ok S op) (f : Nat) : Ok (cServe f S op).1 (cServe f S op).2 := by
  have hp := serve_pot f S op
  exact ⟨(serve_eq f S op h.inv).2, Int.le_trans hp.1 h.pot, by rw [hp.2.2.1]; exact h.pools⟩
def AskG (r : Res) (w w' : World) (gp : Nat) (X : Aux) (F : Nat → Prop) (e : Ending) : Prop :=
  e = .returned (.tuple #[.int .i64 r.id, .int .i64 (r.err : Int)]) ∧ Moved w w' gp r.S { X with op := r.op } F
def DoneG (r : Res) (w w' : World) (gp : Nat) (X : Aux) (F : Nat → Prop) (e : Ending) : Prop :=
  e = .returned (.int .i64 (r.err : Int)) ∧ Moved w w' gp r.S { X with op := r.op } F
set_option maxRecDepth 20000 in
set_option maxHeartbeats 2000000 in
theorem dLeave (gp : Nat) (c : Int) (S : Sta) (X : Aux) (F : Nat → Prop) (w : World) (h : DeskAt w gp S X F) (hok : Ok S X.op) :
    Calls Tryz.prog 63 #[.pointer (some ⟨gp, 0, none⟩), .int .i64 c] w fun e w' => DoneG (cLeave S X.op c) w w' gp X F e := by
  obtain ⟨po, pc, so, sc, wo, wc, yo, yc, ho, hc, hx⟩ := h.ex
  have hL := hok.inv.op0
  have hP := hok.pot
  unfold pot at hP
  simp only at hP
  have hq3 : S.wts.length ≤ 1099511627776 := by omega
  obtain ⟨g0, g1, g2, g3, g4, gz⟩ := blk5d hx.box
  have HIC := hideIt (cIsClient c w)
  have HW := hideIt (cWaits wo _ wc c S.wts w (own_row hx.t.own) rfl (by unfold maxLen; omega))
  have HQ := hideIt (dQuit gp c S X F w h hq3)
  have HH := hideIt h
  clear h hx hok hL hP
  obtain ⟨kb, hkb⟩ : ∃ b, okCli c = b := ⟨_, rfl⟩
  have HKB := hideIt hkb
  unfold okCli at hkb
  rw [hkb] at HIC
  obtain ⟨wb, hwb⟩ : ∃ b, (S.wts.find? (isCliW c)).isSome = b := ⟨_, rfl⟩
  have HWB := hideIt hwb
  rw [hwb] at HW
  clear hkb hwb
  go_enter Tryz.func63, Tryz.ntmps63
  go_wp2_with fail
  refine HIC.out.mono ?_
  rintro e w1 ⟨rfl, h1⟩
  obtain rfl := h1.symm
  cases kb with
  | false =>
    have HR : Hid (cLeave S X.op c = ⟨S, X.op, 0, 10⟩) := by
      show _ = _
      unfold cLeave; rw [if_pos HKB.out]
    go_wp2_with fail
    go_ret
    rw [HR.out]
    exact ⟨rfl, Moved.refl HH.out⟩
  | true =>
    go_wp2_with fail
    refine HW.out.mono ?_
    rintro e w1 ⟨rfl, h1⟩
    obtain rfl := h1.symm
    cases wb with
    | false =>
      have HR : Hid (cLeave S X.op c = ⟨S, X.op, 0, 14⟩) := by
        show _ = _
        unfold cLeave; rw [if_neg (by rw [HKB.out]; simp), if_pos HWB.out]
      go_wp2_with fail
      go_ret
      rw [HR.out]
      exact ⟨rfl, Moved.refl HH.out⟩
    | true =>
      have HR : Hid (cLeave S X.op c = ⟨cQuit S c, X.op, 0, 0⟩) := by
        show _ = _
        unfold cLeave; rw [if_neg (by rw [HKB.out]; simp), if_neg (by rw [HWB.out]; simp)]
      go_wp2_with fail
      refine HQ.out.mono ?_
      rintro e w2 ⟨⟨x, rfl⟩, hm⟩
      have KF := hideIt hm
      clear hm g0 g1 g2 g3 g4 gz
      go_wp2_with fail
      go_ret
      rw [HR.out]
      exact ⟨rfl, KF.out⟩
set_option maxRecDepth 20000 in
set_option maxHeartbeats 2000000 in
theorem dCrash (gp : Nat) (id : Int) (S : Sta) (X : Aux) (F : Nat → Prop) (w : World) (h : DeskAt w gp S X F) (hok : Ok S X.op) :
    Calls Tryz.prog 48 #[.pointer (some ⟨gp, 0, none⟩), .int .i64 id] w fun e w' => DoneG (cCrash S X.op id) w w' gp X F e := by
  obtain ⟨po, pc, so, sc, wo, wc, yo, yc, ho, hc, hx⟩ := h.ex
  have hL := hok.inv.op0
  have hP := hok.pot
  have hLn := hok.inv.len
  unfold pot at hP
  simp only at hP
  have hq3 : S.srv.length ≤ 1099511627776 := by omega
  obtain ⟨g0, g1, g2, g3, g4, gz⟩ := blk5d hx.box
  have HW := hideIt (cIsServer so _ sc id S.srv w (own_row hx.s.own) rfl (by unfold maxLen; omega))
  have HQ := hideIt (dShut gp id S X F w h hq3)
  have HH := hideIt h
  have HOK : Hid (Ok (cShut S id) X.op) := ⟨inv_filterV hok.inv _, hok.pot, hok.pools⟩
  clear h hx hok hL hP hLn
  obtain ⟨wb, hwb⟩ : ∃ b, (S.srv.find? (isId id)).isSome = b := ⟨_, rfl⟩
  have HWB : Hid ((S.srv.find? (fun x => x.id == id)).isSome = wb) := hwb
  rw [hwb] at HW
  clear hwb
  go_enter Tryz.func48, Tryz.ntmps48
  go_wp2_with fail
  refine HW.out.mono ?_
  rintro e w1 ⟨rfl, h1⟩
  obtain rfl := h1.symm
  cases wb with
  | false =>
    have HR : Hid (cCrash S X.op id = ⟨S, X.op, 0, 15⟩) := by
      show _ = _
      unfold cCrash; rw [if_pos HWB.out]
    go_wp2_with fail
    go_ret
    rw [HR.out]
    exact ⟨rfl, Moved.refl HH.out⟩
  | true =>
    have HR : Hid (cCrash S X.op id = ⟨(cServe S.wts.length (cShut S id) X.op).1, (cServe S.wts.length (cShut S id) X.op).2, 0, 0⟩) := by
      show _ = _
      unfold cCrash; rw [if_neg (by rw [HWB.out]; simp)]
    go_wp2_with fail
    refine HQ.out.mono ?_
    rintro e w2 ⟨⟨x, rfl⟩, hm⟩
    obtain ⟨F1, hd, hnx⟩ := hm.step
    have HSV := hideIt (dServe gp (cShut S id) X F1 w2 hd HOK.out)
    have HNX := hideIt hnx
    clear hm hd hnx g0 g1 g2 g3 g4 gz
    go_wp2_with fail
    refine HSV.out.mono ?_
    rintro e w3 ⟨⟨x, rfl⟩, hm⟩
    have KF := hideIt (HNX.out _ _ _ hm)
    clear hm
    go_wp2_with fail
    go_ret
    rw [HR.out]
    exact ⟨rfl, KF.out⟩
set_option maxRecDepth 20000 in
set_option maxHeartbeats 4000000 in
theorem dDone (gp : Nat) (c : Int) (S : Sta) (X : Aux) (F : Nat → Prop) (w : World) (h : DeskAt w gp S X F) (hok : Ok S X.op) :
    Calls Tryz.prog 61 #[.pointer (some ⟨gp, 0, none⟩), .int .i64 c] w fun e w' => DoneG (cDone S X.op c) w w' gp X F e := by
  obtain ⟨po, pc, so, sc, wo, wc, yo, yc, ho, hc, hx⟩ := h.ex
  have hL := hok.inv.op0
  have hP := hok.pot
  have hLn := hok.inv.len
  unfold pot at hP
  simp only at hP
  have hq3 : S.srv.length ≤ 1099511627776 := by omega
  have hgplt : gp < w.heap.size := h.lt gp h.gp
  obtain ⟨g0, g1, g2, g3, g4, gz⟩ := blk5d hx.box
  have HIC := hideIt (cIsClient c w)
  have HB := hideIt (cHeldBy so _ sc c S.srv w (own_row hx.s.own) rfl (by unfold maxLen; omega))
  have HZ := hideIt (orS_zero (p := isCliV c) hok.inv.nz)
  have HH := hideIt h
  have HOK := hideIt hok
  obtain ⟨⟨x0, x1, x2, x3⟩, hx0⟩ : ∃ x, orS (S.srv.find? (isCliV c)) = x := ⟨_, rfl⟩
  rw [hx0] at HB HZ
  simp only at HZ
  have HX0 := hideIt hx0
  clear h hx hok hL hP hLn hx0
  obtain ⟨kb, hkb⟩ : ∃ b, okCli c = b := ⟨_, rfl⟩
  have HKB := hideIt hkb
  unfold okCli at hkb
  rw [hkb] at HIC
  clear hkb
  go_enter Tryz.func61, Tryz.ntmps61
  go_wp2_with fail
  refine HIC.out.mono ?_
  rintro e w1 ⟨rfl, h1⟩
  obtain rfl := h1.symm
  cases kb with
  | false =>
    have HR : Hid (cDone S X.op c = ⟨S, X.op, 0, 10⟩) := by
      show _ = _
      unfold cDone; rw [if_pos HKB.out]
    go_wp2_with fail
    go_ret
    rw [HR.out]
    exact ⟨rfl, Moved.refl HH.out⟩
  | true =>
    go_wp2_with fail
    refine HB.out.mono ?_
    rintro e w1 ⟨rfl, hb1⟩
    obtain ⟨W1, hW1⟩ : ∃ W1, W1 = w1.alloc (bSv x0 x1 x2 x3) := ⟨_, rfl⟩
    have hbW : Below w.heap.size w W1 := by rw [hW1]; exact nx_trans hb1 (nx_alloc _ _)
    have KW : Hid (W1 = w1.alloc (bSv x0 x1 x2 x3) ∧ W1.heap[w1.heap.size]? = some (bSv x0 x1 x2 x3) ∧ Below w.heap.size w W1 ∧ ¬ F w1.heap.size) := ⟨hW1, by rw [hW1]; exact heap_alloc_at _ _ rfl, hbW, fun hf => by have := HH.out.lt _ hf; have := hb1.size; omega⟩
    have HD1 : Hid (DeskAt W1 gp S X F) := HH.out.keep (G := fun _ => False) (Chg.of_below hbW) (fun _ _ h => h)
    clear hb1 hW1 hbW g0 g1 g2 g3 g4 gz HB
    go_upto_region 4 with fail
    rw [← KW.out.1]
    obtain ⟨y0, y1, y2, y3, yz⟩ := blk4d KW.out.2.1
    cases hz : (x0 == 0) with
    | true =>
      have HR : Hid (cDone S X.op c = ⟨S, X.op, 0, 14⟩) := by
        show _ = _
        unfold cDone
        rw [if_neg (by rw [HKB.out]; simp)]
        cases hf : S.srv.find? (isCliV c) with
        | none => rfl
        | some s => have := HZ.out; rw [hz, hf] at this; simp at this
      go_wp2_with fail
      go_ret
      rw [HR.out]
      exact ⟨rfl, (Moved.refl HH.out).below KW.out.2.2.1⟩
    | false =>
      have HFS : Hid (S.srv.find? (isCliV c) = some ⟨x0, x1, x2, x3⟩) := by
        show _ = _
        cases hf : S.srv.find? (isCliV c) with
        | none => have := HZ.out; rw [hz, hf] at this; simp at this
        | some s => have := HX0.out; rw [hf] at this; exact congrArg some this
      have HHD := hideIt (dHand gp x0 0 S X F W1 HD1.out hq3)
      go_wp2_with fail
      refine HHD.out.mono ?_
      rintro e w2 ⟨⟨x, rfl⟩, hm2⟩
      have hch2 := hm2
      obtain ⟨_, _, _, hch2⟩ := hch2
      have hs2 : w2.heap[w1.heap.size]? = some (bSv x0 x1 x2 x3) := (hch2.block _ (Array.getElem?_eq_some_iff.1 KW.out.2.1).1 KW.out.2.2.2).trans KW.out.2.1
      obtain ⟨F2, hd2, hnx2⟩ := hm2.step
      have HOK2 : Hid (Ok (cHand S x0 0) X.op) := ⟨inv_hand HOK.out.inv _ _, HOK.out.pot, HOK.out.pools⟩
      have hl2 : (cHand S x0 0).srv.length ≤ 1099511627776 := by
        show (S.srv.map _).length ≤ _
        rw [List.length_map]; exact hq3
      have HSU := hideIt (dSurplus gp x0 x1 x2 x3 (cHand S x0 0) X F2 w2 hd2 hl2 HOK.out.pools)
      have K2 : Hid (DeskAt w2 gp (cHand S x0 0) X F2 ∧ (∀ w3 S2 X2, Moved w2 w3 gp S2 X2 F2 → Moved W1 w3 gp S2 X2 F) ∧ w2.heap[w1.heap.size]? = some (bSv x0 x1 x2 x3) ∧ (cHand S x0 0).srv.length ≤ 1099511627776) := ⟨hd2, hnx2, hs2, hl2⟩
      clear hm2 hch2 hs2 hd2 hnx2 hl2 y0 y1 y2 y3 yz HHD
      obtain ⟨y0, y1, y2, y3, yz⟩ := blk4d K2.out.2.2.1
      go_wp2_with fail
      refine HSU.out.mono ?_
      rintro e w3 ⟨rfl, hb3⟩
      have HCD : Hid (cDone S X.op c = ⟨(cServe S.wts.length (if isSur (cHand S x0 0) ⟨x0, x1, x2, x3⟩ = true then cShut (cHand S x0 0) x0 else cHand S x0 0) X.op).1, (cServe S.wts.length (if isSur (cHand S x0 0) ⟨x0, x1, x2, x3⟩ = true then cShut (cHand S x0 0) x0 else cHand S x0 0) X.op).2, 0, 0⟩) := by
        show _ = _
        unfold cDone
        rw [if_neg (by rw [HKB.out]; simp), HFS.out]
      have hs3 : w3.heap[w1.heap.size]? = some (bSv x0 x1 x2 x3) := (hb3.block _ (Array.getElem?_eq_some_iff.1 K2.out.2.2.1).1).trans K2.out.2.2.1
      have KD3 : Hid (DeskAt w3 gp (cHand S x0 0) X F2 ∧ Below w2.heap.size w2 w3) := ⟨K2.out.1.keep (G := fun _ => False) (Chg.of_below hb3) (fun _ _ h => h), hb3⟩
      clear y0 y1 y2 y3 yz hb3
      obtain ⟨y0, y1, y2, y3, yz⟩ := blk4d hs3
      clear hs3 HSU
      cases hsu : isSur (cHand S x0 0) ⟨x0, x1, x2, x3⟩ with
      | true =>
        rw [hsu, if_pos rfl] at HCD
        have HSH := hideIt (dShut gp x0 (cHand S x0 0) X F2 w3 KD3.out.1 K2.out.2.2.2)
        clear hsu
        go_wp2_with fail
        refine HSH.out.mono ?_
        rintro e w4 ⟨⟨x, rfl⟩, hm4⟩
        have hm4' := K2.out.2.1 _ _ _ (Moved.after KD3.out.2 hm4)
        obtain ⟨F4, hd4, hnx4⟩ := hm4'.step
        have HSV := hideIt (dServe gp (cShut (cHand S x0 0) x0) X F4 w4 hd4 ⟨inv_filterV HOK2.out.inv _, HOK2.out.pot, HOK2.out.pools⟩)
        have HNX := hideIt hnx4
        clear hm4 hm4' hd4 hnx4 y0 y1 y2 y3 yz
        go_wp2_with fail
        refine HSV.out.mono ?_
        rintro e w5 ⟨⟨x, rfl⟩, hm⟩
        have KF := hideIt (Moved.after KW.out.2.2.1 (HNX.out _ _ _ hm))
        clear hm
        go_wp2_with fail
        go_ret
        rw [HCD.out]
        exact ⟨rfl, KF.out⟩
      | false =>
        rw [hsu, if_neg (by simp)] at HCD
        have hm4' := K2.out.2.1 _ _ _ (Moved.after KD3.out.2 (Moved.refl KD3.out.1))
        obtain ⟨F4, hd4, hnx4⟩ := hm4'.step
        have HSV := hideIt (dServe gp (cHand S x0 0) X F4 w3 hd4 HOK2.out)
        have HNX := hideIt hnx4
        clear hm4' hd4 hnx4 hsu
        go_wp2_with fail
        refine HSV.out.mono ?_
        rintro e w5 ⟨⟨x, rfl⟩, hm⟩
        have KF := hideIt (Moved.after KW.out.2.2.1 (HNX.out _ _ _ hm))
        clear hm y0 y1 y2 y3 yz
        go_wp2_with fail
        go_ret
        rw [HCD.out]
        exact ⟨rfl, KF.out⟩
end Lw
end Go.Proofs.YtohbonfngeblkaaGreat
