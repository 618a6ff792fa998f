import Derived.Test.YtohbonfngeblkaaGreatMgAd
import Derived.Deep.RegionHeld3
import Derived.Deep.DeepCutAuto
import Derived.BigQuiet
namespace Go.Proofs.YtohbonfngeblkaaGreat
open Go.RowKit
namespace Lw
open Co
theorem orS_zero {l : List Srv} {p : Srv → Bool} (hid : ∀ x ∈ l, x.id ≠ 0) : ((orS (l.find? p)).id == 0) = (l.find? p).isNone := by
  cases h : l.find? p with
  | none => rfl
  | some s =>
    have := hid s (List.mem_of_find?_eq_some h)
    simpa [orS] using this
theorem orS_get {l : List Srv} {p : Srv → Bool} {s : Srv} (h : l.find? p = some s) : orS (l.find? p) = s := by rw [h]; rfl
theorem DeskX.nx {w w' : World} {gp : Nat} {S : Sta} {X : Aux} {F : Nat → Prop} {po : Option Addr} {pc : Nat} {so : Option Addr} {sc : Nat} {wo : Option Addr} {wc : Nat} {yo : Option Addr} {yc : Nat} {ho : Option Addr} {hc : Nat} (h : DeskX w gp S X F po pc so sc wo wc yo yc ho hc) (hl : gp < w.heap.size) (hb : Below w.heap.size w w') : w'.heap[gp]? = some (bDesk S.bud po S.pools.length pc so S.srv.length sc wo S.wts.length wc X.op ⟨.slice yo S.plan.length yc, S.begun, S.back, X.hb, .slice ho X.hps.length hc⟩) :=
  (hb.block gp hl).trans h.box
def cRoom (S : Sta) : Option Sta := if (S.srv.length : Int) < S.bud then some S else match S.srv.find? (isCliV 0) with | none => none | some s => if S.bud < (S.srv.length : Int) then none else some (cShut S s.id)
set_option maxRecDepth 20000 in
set_option maxHeartbeats 2000000 in
theorem dRoom (gp : Nat) (S : Sta) (X : Aux) (F : Nat → Prop) (w : World) (h : DeskAt w gp S X F) (hid : ∀ x ∈ S.srv, x.id ≠ 0) (hq : S.srv.length ≤ 1099511627776) :
    Calls Tryz.prog 126 #[.pointer (some ⟨gp, 0, none⟩)] w fun e w' => e = .returned (.bool (cRoom S).isSome) ∧ Moved w w' gp ((cRoom S).getD S) X F := by
  obtain ⟨po, pc, so, sc, wo, wc, yo, yc, ho, hc, hx⟩ := h.ex
  have hgplt : gp < w.heap.size := h.lt gp h.gp
  obtain ⟨g0, g1, g2, g3, g4, gz⟩ := blk5d hx.box
  have HH := hideIt h
  have HX := hideIt hx
  obtain ⟨n, hn⟩ : ∃ n, S.srv.length = n := ⟨_, rfl⟩
  obtain ⟨bud, hbud⟩ : ∃ b, S.bud = b := ⟨_, rfl⟩
  rw [hn] at g2 hq
  rw [hbud] at g0
  have HN := hideIt (And.intro hn hbud)
  have HID := hideIt hid
  clear h hx hn hbud hid
  by_cases hlt : (n : Int) < bud
  · have HR : Hid (cRoom S = some S) := by
      show _ = _
      unfold cRoom
      rw [if_pos (by rw [HN.out.1, HN.out.2]; exact hlt)]
    go_enter Tryz.func126, Tryz.ntmps126
    go_upto_region 1 with fail
    go_quiet (fail)
    go_wp2_with fail
    go_ret
    refine ⟨by rw [HR.out]; rfl, ?_⟩
    rw [HR.out]
    exact (Moved.refl HH.out).below (below_drewN (Below.refl _ _) _)
  · go_enter Tryz.func126, Tryz.ntmps126
    go_upto_region 1 with fail
    go_quiet (fail)
    obtain ⟨wd, hwd⟩ : ∃ wd, w.drewN nq = wd := ⟨_, rfl⟩
    have hbd : Below w.heap.size w wd := by rw [← hwd]; exact below_drewN (Below.refl _ _) _
    rw [hwd]
    have HBD := hideIt hbd
    have hd1 := HX.out.nx hgplt hbd
    rw [HN.out.1, HN.out.2] at hd1
    have HI := hideIt (cFirstIdle so n sc S.srv wd (by have := own_row HX.out.s.own; rw [HN.out.1] at this; exact this.nx hbd) HN.out.1 (by unfold maxLen; omega))
    clear g0 g1 g2 g3 g4 gz hwd hbd
    obtain ⟨g0, g1, g2, g3, g4, gz⟩ := blk5d hd1
    clear hd1
    go_wp2_with fail
    refine HI.out.mono ?_
    rintro e w1 ⟨rfl, hb1⟩
    have HZ := hideIt (orS_zero (p := isCliV 0) HID.out)
    obtain ⟨⟨x0, x1, x2, x3⟩, hx0⟩ : ∃ x, orS (S.srv.find? (isCliV 0)) = x := ⟨_, rfl⟩
    rw [hx0] at HZ ⊢
    simp only at HZ
    have HX0 := hideIt hx0
    obtain ⟨W1, hW1⟩ : ∃ W1, W1 = w1.alloc (.cells #[.int .i64 x0, .string x1, .int .i64 x2, .int .i64 x3] 55) := ⟨_, rfl⟩
    have hbW : Below w.heap.size w W1 := by rw [hW1]; exact nx_trans (nx_trans HBD.out hb1) (nx_alloc _ _)
    have KW : Hid (W1 = w1.alloc (.cells #[.int .i64 x0, .string x1, .int .i64 x2, .int .i64 x3] 55) ∧ W1.heap[w1.heap.size]? = some (.cells #[.int .i64 x0, .string x1, .int .i64 x2, .int .i64 x3] 55) ∧ Below w.heap.size w W1) := ⟨hW1, by rw [hW1]; exact heap_alloc_at _ _ rfl, hbW⟩
    have hd1 := HX.out.nx hgplt hbW
    rw [HN.out.1, HN.out.2] at hd1
    clear hx0 hb1 hW1 hbW HI g0 g1 g2 g3 g4 gz
    go_upto_region 4 with fail
    rw [← KW.out.1]
    obtain ⟨g0, g1, g2, g3, g4, gz⟩ := blk5d hd1
    obtain ⟨y0, y1, y2, y3, yz⟩ := blk4d KW.out.2.1
    clear hd1
    cases hdg : decide (bud < (n : Int)) with
    | true =>
      have HR : Hid (cRoom S = none) := by
        show _ = _
        have hb : bud < (n : Int) := of_decide_eq_true hdg
        unfold cRoom
        rw [if_neg (by rw [HN.out.1, HN.out.2]; omega)]
        cases S.srv.find? (isCliV 0) with
        | none => rfl
        | some s => simp only; rw [if_pos (by rw [HN.out.1, HN.out.2]; exact hb)]
      go_quiet (fail)
      go_wp2_with fail
      go_ret
      refine ⟨by rw [HR.out]; rfl, ?_⟩
      rw [HR.out]
      exact (Moved.refl HH.out).below (below_drewN KW.out.2.2 _)
    | false =>
      cases hz : (x0 == 0) with
      | true =>
        have HR : Hid (cRoom S = none) := by
          show _ = _
          unfold cRoom
          rw [if_neg (by rw [HN.out.1, HN.out.2]; omega)]
          cases hf : S.srv.find? (isCliV 0) with
          | none => rfl
          | some s => have := HZ.out; rw [hz, hf] at this; simp at this
        go_quiet (fail)
        go_wp2_with fail
        go_ret
        refine ⟨by rw [HR.out]; rfl, ?_⟩
        rw [HR.out]
        exact (Moved.refl HH.out).below (below_drewN KW.out.2.2 _)
      | false =>
        have HR : Hid (cRoom S = some (cShut S x0)) := by
          show _ = _
          have hb : ¬ bud < (n : Int) := of_decide_eq_false hdg
          unfold cRoom
          rw [if_neg (by rw [HN.out.1, HN.out.2]; omega)]
          cases hf : S.srv.find? (isCliV 0) with
          | none => have := HZ.out; rw [hz, hf] at this; simp at this
          | some s =>
            have := HX0.out
            rw [hf] at this
            simp only
            rw [if_neg (by rw [HN.out.1, HN.out.2]; exact hb), show s.id = x0 by rw [show s = ⟨x0, x1, x2, x3⟩ from this]]
        go_quiet (fail)
        obtain ⟨W2, hW2⟩ : ∃ W2, W1.drewN nq = W2 := ⟨_, rfl⟩
        have hb2 : Below W1.heap.size W1 W2 := by rw [← hW2]; exact below_drewN (Below.refl _ _) _
        rw [hW2]
        have KM : Hid (Moved w W2 gp S X F) := ((Moved.refl HH.out).below KW.out.2.2).below hb2
        have HY : Hid (W2.heap[w1.heap.size]? = some (.cells #[.int .i64 x0, .string x1, .int .i64 x2, .int .i64 x3] 55)) := (hb2.block _ (Array.getElem?_eq_some_iff.1 KW.out.2.1).1).trans KW.out.2.1
        clear hW2 hb2 g0 g1 g2 g3 g4 gz y0 y1 y2 y3 yz
        obtain ⟨y0, y1, y2, y3, yz⟩ := blk4d HY.out
        obtain ⟨F1, hd, hnx⟩ := KM.out.step
        have HS := hideIt (dShut gp x0 S X F1 W2 hd (by rw [HN.out.1]; exact hq))
        have KM2 := hideIt (hnx : ∀ w2 S2 X2, Moved W2 w2 gp S2 X2 F1 → Moved w w2 gp S2 X2 F)
        clear hd hnx
        go_wp2_with fail
        refine HS.out.mono ?_
        rintro e w3 ⟨⟨x, rfl⟩, hm⟩
        have KF := hideIt (KM2.out w3 _ _ hm)
        clear hm
        go_wp2_with fail
        go_ret
        refine ⟨by rw [HR.out]; rfl, ?_⟩
        rw [HR.out]
        exact KF.out
set_option maxRecDepth 20000 in
set_option maxHeartbeats 2000000 in
theorem dBusy (gp : Nat) (c : Int) (S : Sta) (X : Aux) (F : Nat → Prop) (w : World) (h : DeskAt w gp S X F) (hid : ∀ x ∈ S.srv, x.id ≠ 0) (hq : S.srv.length ≤ 1099511627776) (hq2 : S.wts.length ≤ 1099511627776) :
    Calls Tryz.prog 77 #[.pointer (some ⟨gp, 0, none⟩), .int .i64 c] w fun e w' => e = .returned (.bool ((S.srv.find? (isCliV c)).isSome || (S.wts.find? (isCliW c)).isSome)) ∧ Below w.heap.size w w' := by
  obtain ⟨po, pc, so, sc, wo, wc, yo, yc, ho, hc, hx⟩ := h.ex
  have hgplt : gp < w.heap.size := h.lt gp h.gp
  obtain ⟨g0, g1, g2, g3, g4, gz⟩ := blk5d hx.box
  have HX := hideIt hx
  have HI := hideIt (cHeldBy so _ sc c S.srv w (own_row hx.s.own) rfl (by unfold maxLen; omega))
  have HZ := hideIt (orS_zero (p := isCliV c) hid)
  obtain ⟨⟨x0, x1, x2, x3⟩, hx0⟩ : ∃ x, orS (S.srv.find? (isCliV c)) = x := ⟨_, rfl⟩
  rw [hx0] at HI HZ
  simp only at HZ
  clear h hx hid hx0
  go_enter Tryz.func77, Tryz.ntmps77
  go_wp2_with fail
  refine HI.out.mono ?_
  rintro e w1 ⟨rfl, hb1⟩
  obtain ⟨W1, hW1⟩ : ∃ W1, W1 = w1.alloc (.cells #[.int .i64 x0, .string x1, .int .i64 x2, .int .i64 x3] 55) := ⟨_, rfl⟩
  have hbW : Below w.heap.size w W1 := by rw [hW1]; exact nx_trans hb1 (nx_alloc _ _)
  have KW : Hid (W1 = w1.alloc (.cells #[.int .i64 x0, .string x1, .int .i64 x2, .int .i64 x3] 55) ∧ W1.heap[w1.heap.size]? = some (.cells #[.int .i64 x0, .string x1, .int .i64 x2, .int .i64 x3] 55) ∧ Below w.heap.size w W1) := ⟨hW1, by rw [hW1]; exact heap_alloc_at _ _ rfl, hbW⟩
  have HWS := hideIt (cWaits wo _ wc c S.wts W1 ((own_row HX.out.t.own).nx hbW) rfl (by unfold maxLen; omega))
  have hd1 := HX.out.nx hgplt hbW
  clear hb1 hW1 hbW HI g0 g1 g2 g3 g4 gz
  go_upto_region 2 with fail
  rw [← KW.out.1]
  obtain ⟨g0, g1, g2, g3, g4, gz⟩ := blk5d hd1
  obtain ⟨y0, y1, y2, y3, yz⟩ := blk4d KW.out.2.1
  clear hd1
  cases hz : (x0 != 0) with
  | true =>
    have HR : Hid ((S.srv.find? (isCliV c)).isSome = true) := by
      show _ = _
      have h0 : (x0 == 0) = false := by simpa [bne] using hz
      have := HZ.out
      rw [h0] at this
      cases hf : S.srv.find? (isCliV c) with
      | none => rw [hf] at this; simp at this
      | some s => rfl
    go_wp2_with fail
    go_ret
    exact ⟨by rw [HR.out]; rfl, KW.out.2.2⟩
  | false =>
    have HR : Hid ((S.srv.find? (isCliV c)).isSome = false) := by
      show _ = _
      have h0 : (x0 == 0) = true := by simpa [bne] using hz
      have := HZ.out
      rw [h0] at this
      cases hf : S.srv.find? (isCliV c) with
      | none => rfl
      | some s => rw [hf] at this; simp at this
    go_wp2_with fail
    refine HWS.out.mono ?_
    rintro e w2 ⟨rfl, h2⟩
    obtain rfl := h2.symm
    go_wp2_with fail
    go_ret
    exact ⟨by rw [HR.out]; simp, KW.out.2.2⟩
structure Fnd (W : World) (x : Pl) (g : Nat) (wz : World) : Prop where
  new : W.heap.size ≤ g
  box : wz.heap[g]? = some (bPl x)
  bel : Below W.heap.size W wz
theorem fnd_a {W w9 : World} {x : Pl} (h : Below W.heap.size W w9) : Fnd W x w9.heap.size (w9.alloc (bPl x)) := ⟨h.size, heap_alloc_at _ _ rfl, h.alloc h.size _⟩
theorem fnd_b {W w9 : World} {x z : Pl} (h : Below W.heap.size W w9) (hz : w9.heap[W.heap.size]? = some (bPl z)) : Fnd W x W.heap.size ((((w9.setCell ⟨W.heap.size, 0, none⟩ (.string x.nm)).setCell ⟨W.heap.size, 1, none⟩ (.int .i64 x.sz)).setCell ⟨W.heap.size, 2, none⟩ (.int .i64 x.wt)).setCell ⟨W.heap.size, 3, none⟩ (.int .i64 x.fr)) :=
  ⟨Nat.le_refl _, set_heap _ _ _ _ _ _ (set_heap _ _ _ _ _ _ (set_heap _ _ _ _ _ _ (set_heap _ _ _ _ _ _ hz))), (((h.setCell (Nat.le_refl _) _).setCell (Nat.le_refl _) _).setCell (Nat.le_refl _) _).setCell (Nat.le_refl _) _⟩
end Lw
end Go.Proofs.YtohbonfngeblkaaGreat
