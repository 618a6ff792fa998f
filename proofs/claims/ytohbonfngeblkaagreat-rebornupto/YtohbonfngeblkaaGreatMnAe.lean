import Derived.Test.YtohbonfngeblkaaGreatMnAc
import Derived.Test.YtohbonfngeblkaaGreatMnAd
namespace Go.Proofs.YtohbonfngeblkaaGreat
open Go.RowKit
namespace Lw
open Co
def cThinL (pool : ByteArray) : Nat → Sta → Sta
  | 0, S => S
  | f + 1, S => cThinL pool f (cQuit S (orW (lastP (isPoolW pool) S.wts)).client)
set_option maxRecDepth 20000 in
set_option maxHeartbeats 4000000 in
theorem dThinLine (gp : Nat) (pool : ByteArray) (N : Int) (S : Sta) (X : Aux) (F : Nat → Prop) (w : World) (h : DeskAt w gp S X F) (hq0 : S.wts.length ≤ 549755813888) (hN : 0 ≤ N ∧ N ≤ 1000000) :
    Calls Tryz.prog 104 #[.pointer (some ⟨gp, 0, none⟩), .string pool, .int .i64 N] w fun e w' => (∃ x, e = .returned x) ∧ Moved w w' gp (cThinL pool ((cntG (isPoolW pool) S.wts : Int) - N).toNat S) X F := by
  obtain ⟨po, pc, so, sc, wo, wc, yo, yc, ho, hc, hx⟩ := h.ex
  obtain ⟨g0, g1, g2, g3, g4, gz⟩ := blk5d hx.box
  have HH := hideIt h
  have HCN := hideIt (cWaitersFor wo _ wc pool S.wts w (own_row hx.t.own) rfl (by unfold maxLen; omega))
  obtain ⟨q, hqe⟩ : ∃ q : Nat, cntG (isPoolW pool) S.wts = q := ⟨_, rfl⟩
  have hql : q ≤ 549755813888 := by
    rw [← hqe]
    exact Nat.le_trans (List.length_filter_le _ _) hq0
  have HQ := hideIt hq0
  rw [hqe] at HCN ⊢
  obtain ⟨V, hV⟩ : ∃ V : Int, (q : Int) - N = V := ⟨_, rfl⟩
  have hVb : -1000000 ≤ V ∧ V ≤ 549755813888 := by omega
  have HV := hideIt hV
  clear h hx hqe hq0
  go_enter Tryz.func104, Tryz.ntmps104
  go_wp2_with fail
  refine HCN.out.mono ?_
  rintro e w1 ⟨rfl, h1⟩
  obtain rfl := h1.symm
  go_wp2_with fail
  clear g0 g1 g2 g3 g4 gz
  go_loopw [6, 7] (fun i p7 wr => ∃ (v : Int) (T : Sta), v ≤ 549755813888 ∧ -1000000 ≤ v ∧ i = .int .i64 v ∧ Hid (Moved w wr gp T X F ∧ T.wts.length ≤ 549755813888 ∧ cThinL pool v.toNat T = cThinL pool V.toNat S)) (fun i _ _ => (intOf i).toNat)
  case atStart => exact ⟨V, S, hVb.2, hVb.1, by rw [← HV.out], Moved.refl HH.out, HQ.out, rfl⟩
  case round =>
    obtain ⟨v, T, hv, hv2, rfl, HS⟩ := hrel
    by_cases hlt : 0 < v
    · obtain ⟨F1, hd, hnx⟩ := HS.out.1.step
      obtain ⟨po', pc', so', sc', wo', wc', yo', yc', ho', hc', hx⟩ := hd.ex
      obtain ⟨g0, g1, g2, g3, g4, gz⟩ := blk5d hx.box
      have HLI := hideIt (cLastWaiterFor wo' _ wc' pool T.wts wr (own_row hx.t.own) rfl (by have := HS.out.2.1; unfold maxLen; omega))
      obtain ⟨⟨x0, x1⟩, hx0⟩ : ∃ x, orW (lastP (isPoolW pool) T.wts) = x := ⟨_, rfl⟩
      rw [hx0] at HLI
      have HX0 := hideIt hx0
      have HD := hideIt hd
      have HNX := hideIt hnx
      clear hd hnx hx hx0
      go_wp2_with fail
      refine HLI.out.mono ?_
      rintro e w2 ⟨rfl, hb2⟩
      obtain ⟨W2, hW2⟩ : ∃ W2, W2 = w2.alloc (bWt x0 x1) := ⟨_, rfl⟩
      have hbW : Below wr.heap.size wr W2 := by rw [hW2]; exact nx_trans hb2 (nx_alloc _ _)
      have KW : Hid (W2 = w2.alloc (bWt x0 x1) ∧ W2.heap[w2.heap.size]? = some (bWt x0 x1) ∧ Below wr.heap.size wr W2) := ⟨hW2, by rw [hW2]; exact heap_alloc_at _ _ rfl, hbW⟩
      have HSH := hideIt (dQuit gp x0 T X F1 W2 (HD.out.keep (G := fun _ => False) (Chg.of_below hbW) (fun _ _ h => h)) (by have := HS.out.2.1; omega))
      have HT2 : Hid ((cQuit T x0).wts.length ≤ 549755813888 ∧ cThinL pool (v - 1).toNat (cQuit T x0) = cThinL pool V.toNat S) := by
        refine ⟨Nat.le_trans (List.length_filter_le _ _) HS.out.2.1, ?_⟩
        have := HS.out.2.2
        rw [show v.toNat = (v - 1).toNat + 1 by omega, cThinL, HX0.out] at this
        exact this
      clear hb2 hW2 hbW g0 g1 g2 g3 g4 gz
      go_upto_region 4 with fail
      rw [← KW.out.1]
      obtain ⟨b0, b1, bz⟩ := blk2 KW.out.2.1
      go_wp2_with fail
      refine HSH.out.mono ?_
      rintro e w3 ⟨⟨x, rfl⟩, hm⟩
      have KF := hideIt (HNX.out _ _ _ (Moved.after KW.out.2.2 hm))
      clear hm b0 b1 bz
      go_wp2_with fail
      go_roundw
      case rel => exact ⟨v - 1, cQuit T x0, by omega, by omega, by go_num, KF.out, HT2.out⟩
      case measure => simp [intOf]; omega
    · have KF : Hid (Moved w wr gp (cThinL pool V.toNat S) X F) := by
        have := HS.out.2.2
        rw [show v.toNat = 0 by omega, cThinL] at this
        rw [← this]
        exact HS.out.1
      go_wp2_with fail
      refine bodyPost_end (v := .tuple #[]) (by simp [results, Tryz.results104, go_sem]) rfl ?_
      exact ⟨⟨_, rfl⟩, by first | exact KF.out | (rw [HV.out]; exact KF.out)⟩
def updP (k n : Int) (x : Pl) : Pl := if k = 1 ∨ k = 8 then { x with sz := n } else if k = 5 then { x with fr := n } else if k = 6 then { x with wt := n } else x
def chgP (k : Int) (nm : ByteArray) (n : Int) (ps : List Pl) : List Pl := insP (updP k n (Df.inP ps nm)) (ps.filter (othN nm))
abbrev bSt (k : Int) (nm : ByteArray) (n : Int) : Obj := .cells #[.int .i64 k, .string nm, .int .i64 n] 71
abbrev stA (k : Int) (nm : ByteArray) (n : Int) : Value := .agg #[.int .i64 k, .string nm, .int .i64 n]
theorem blk3d {w : World} {g : Nat} {c0 c1 c2 : Value} {t : TypeId} (h : w.heap[g]? = some (.cells #[c0, c1, c2] t (0, 0))) :
    w.cell? ⟨g, 0, none⟩ = some c0 ∧ w.cell? ⟨g, 1, none⟩ = some c1 ∧ w.cell? ⟨g, 2, none⟩ = some c2 ∧ ∀ a, w.frozen? ⟨g, a, none⟩ = false := by
  refine ⟨?_, ?_, ?_, fun a => ?_⟩ <;> simp [World.cell?, World.frozen?, h]
set_option maxRecDepth 20000 in
set_option maxHeartbeats 4000000 in
theorem changed1 (so : Option Addr) (n2 sc : Nat) (nm : ByteArray) (n : Int) (ps : List Pl) (w : World) (hr : RowAt w (.slice so n2 sc) n2 (flatP ps)) (hn : ps.length = n2) (hq : n2 ≤ 1001) :
    Calls Tryz.prog 120 #[.slice so n2 sc, stA 1 nm n] w fun e w' => ∃ vo vc, e = .returned (.slice vo (chgP 1 nm n ps).length vc) ∧ w'.ownsRow w.heap.size 75 4 (.slice vo (chgP 1 nm n ps).length vc) (chgP 1 nm n ps).length (flatP (chgP 1 nm n ps)) ∧ Below w.heap.size w w' := by
  obtain ⟨W0, hW0⟩ : ∃ W0, W0 = w.alloc (bSt 1 nm n) := ⟨_, rfl⟩
  have hb0 : Below w.heap.size w W0 := by rw [hW0]; exact nx_alloc _ _
  have K0 : Hid (W0 = w.alloc (bSt 1 nm n) ∧ W0.heap[w.heap.size]? = some (bSt 1 nm n) ∧ Below w.heap.size w W0) := ⟨hW0, by rw [hW0]; exact heap_alloc_at _ _ rfl, hb0⟩
  have HWO := hideIt (cWithout so n2 sc nm ps W0 (hr.nx hb0) hn (by omega))
  have HPI := hideIt (fun u (hu : Below w.heap.size w u) => Df.cPoolIn so n2 sc nm ps u (hr.nx hu) hn (by unfold maxLen; omega))
  have HLN : Hid ((ps.filter (othN nm)).length ≤ 1001) := by
    have := List.length_filter_le (othN nm) ps
    show _ ≤ _
    omega
  clear hr hn hW0 hb0
  go_enter Tryz.func120, Tryz.ntmps120
  go_upto_region 1 with fail
  rw [← K0.out.1]
  obtain ⟨b0, b1, b2, bz⟩ := blk3d K0.out.2.1
  go_wp2_with fail
  refine HWO.out.mono ?_
  rintro e w1 ⟨vo, vc, rfl, ho1, hb1⟩
  have HO1 := hideIt ho1
  have HB1 := hideIt (nx_trans K0.out.2.2 hb1)
  have hs1 : w1.heap[w.heap.size]? = some (bSt 1 nm n) := (hb1.block _ (Array.getElem?_eq_some_iff.1 K0.out.2.1).1).trans K0.out.2.1
  clear ho1 hb1 b0 b1 b2 bz
  obtain ⟨b0, b1, b2, bz⟩ := blk3d hs1
  have HS1 := hideIt hs1
  clear hs1
  go_wp2_with fail
  refine (HPI.out w1 HB1.out).mono ?_
  rintro e w2 ⟨rfl, hb2⟩
  obtain ⟨⟨x0, x1, x2, x3⟩, hx⟩ : ∃ x, Df.inP ps nm = x := ⟨_, rfl⟩
  rw [hx]
  have HCH : Hid (chgP 1 nm n ps = insP ⟨x0, n, x2, x3⟩ (ps.filter (othN nm))) := by
    show _ = _
    unfold chgP
    rw [hx]
    rfl
  obtain ⟨W2, hW2⟩ : ∃ W2, W2 = w2.alloc (bPl ⟨x0, x1, x2, x3⟩) := ⟨_, rfl⟩
  have hbW : Below w1.heap.size w1 W2 := by rw [hW2]; exact nx_trans hb2 (nx_alloc _ _)
  have K2 : Hid (W2 = w2.alloc (bPl ⟨x0, x1, x2, x3⟩) ∧ W2.heap[w2.heap.size]? = some (bPl ⟨x0, x1, x2, x3⟩) ∧ Below w1.heap.size w1 W2 ∧ W2.heap[w.heap.size]? = some (bSt 1 nm n) ∧ w.heap.size < w2.heap.size) := ⟨hW2, by rw [hW2]; exact heap_alloc_at _ _ rfl, hbW, (hbW.block _ (Array.getElem?_eq_some_iff.1 HS1.out).1).trans HS1.out, Nat.lt_of_lt_of_le (Array.getElem?_eq_some_iff.1 HS1.out).1 hb2.size⟩
  have HW12 : Hid (w1.heap.size ≤ w2.heap.size) := hb2.size
  clear hb2 hW2 hbW hx b0 b1 b2 bz
  go_upto_region 3 with fail
  rw [← K2.out.1]
  obtain ⟨b0, b1, b2, bz⟩ := blk3d K2.out.2.2.2.1
  obtain ⟨p0, p1, p2, p3, pz⟩ := blk4d K2.out.2.1
  obtain ⟨W3, hW3⟩ : ∃ W3, W3 = W2.setCell ⟨w2.heap.size, 1, none⟩ (.int .i64 n) := ⟨_, rfl⟩
  have hle : W0.heap.size ≤ w2.heap.size := by
    have h2 := K2.out.2.2.2.2
    rw [K0.out.1]
    simp
    omega
  have K3 : Hid (W3 = W2.setCell ⟨w2.heap.size, 1, none⟩ (.int .i64 n) ∧ W3.heap[w2.heap.size]? = some (bPl ⟨x0, n, x2, x3⟩) ∧ Below w.heap.size w W3 ∧ W3.ownsRow W0.heap.size 75 4 (.slice vo (ps.filter (othN nm)).length vc) (ps.filter (othN nm)).length (flatP (ps.filter (othN nm)))) := by
    have h5 := own_below HO1.out K2.out.2.2.1
    refine ⟨hW3, by rw [hW3]; exact set_heap _ _ _ _ _ _ K2.out.2.1, by rw [hW3]; exact (nx_trans HB1.out K2.out.2.2.1).setCell (Nat.le_of_lt K2.out.2.2.2.2) _, ?_⟩
    rw [hW3]
    exact ownG_heap h5 (fun j hj => Below.heap_setCell _ _ _ _ (fun e => by
      have h6 := (HO1.out.lt j hj).2
      have h8 : j = w2.heap.size := e
      have h9 := HW12.out
      omega))
  have HIN := hideIt (insert_any ⟨x0, n, x2, x3⟩ vo vc _ (ps.filter (othN nm)) W3 (own_row K3.out.2.2.2) rfl HLN.out)
  clear hW3
  go_upto_region 11 with fail
  rw [← K3.out.1]
  clear b0 b1 b2 bz p0 p1 p2 p3 pz
  obtain ⟨p0, p1, p2, p3, pz⟩ := blk4d K3.out.2.1
  go_wp2_with fail
  refine HIN.out.mono ?_
  rintro e w4 ⟨v, rfl, ho4, hb4⟩
  obtain ⟨vo4, vc4, rfl, _⟩ := own_row ho4
  have KF : Hid (w4.ownsRow w.heap.size 75 4 (.slice vo4 (chgP 1 nm n ps).length vc4) (chgP 1 nm n ps).length (flatP (chgP 1 nm n ps)) ∧ Below w.heap.size w w4) := by
    rw [HCH.out]
    exact ⟨own_mono ho4 K3.out.2.2.1.size, nx_trans K3.out.2.2.1 hb4⟩
  clear ho4 hb4 p0 p1 p2 p3 pz
  go_wp2_with fail
  go_ret
  exact ⟨vo4, vc4, by rw [HCH.out]; rfl, KF.out⟩
set_option maxRecDepth 20000 in
set_option maxHeartbeats 4000000 in
theorem changed5 (so : Option Addr) (n2 sc : Nat) (nm : ByteArray) (n : Int) (ps : List Pl) (w : World) (hr : RowAt w (.slice so n2 sc) n2 (flatP ps)) (hn : ps.length = n2) (hq : n2 ≤ 1001) :
    Calls Tryz.prog 120 #[.slice so n2 sc, stA 5 nm n] w fun e w' => ∃ vo vc, e = .returned (.slice vo (chgP 5 nm n ps).length vc) ∧ w'.ownsRow w.heap.size 75 4 (.slice vo (chgP 5 nm n ps).length vc) (chgP 5 nm n ps).length (flatP (chgP 5 nm n ps)) ∧ Below w.heap.size w w' := by
  obtain ⟨W0, hW0⟩ : ∃ W0, W0 = w.alloc (bSt 5 nm n) := ⟨_, rfl⟩
  have hb0 : Below w.heap.size w W0 := by rw [hW0]; exact nx_alloc _ _
  have K0 : Hid (W0 = w.alloc (bSt 5 nm n) ∧ W0.heap[w.heap.size]? = some (bSt 5 nm n) ∧ Below w.heap.size w W0) := ⟨hW0, by rw [hW0]; exact heap_alloc_at _ _ rfl, hb0⟩
  have HWO := hideIt (cWithout so n2 sc nm ps W0 (hr.nx hb0) hn (by omega))
  have HPI := hideIt (fun u (hu : Below w.heap.size w u) => Df.cPoolIn so n2 sc nm ps u (hr.nx hu) hn (by unfold maxLen; omega))
  have HLN : Hid ((ps.filter (othN nm)).length ≤ 1001) := by
    have := List.length_filter_le (othN nm) ps
    show _ ≤ _
    omega
  clear hr hn hW0 hb0
  go_enter Tryz.func120, Tryz.ntmps120
  go_upto_region 1 with fail
  rw [← K0.out.1]
  obtain ⟨b0, b1, b2, bz⟩ := blk3d K0.out.2.1
  go_wp2_with fail
  refine HWO.out.mono ?_
  rintro e w1 ⟨vo, vc, rfl, ho1, hb1⟩
  have HO1 := hideIt ho1
  have HB1 := hideIt (nx_trans K0.out.2.2 hb1)
  have hs1 : w1.heap[w.heap.size]? = some (bSt 5 nm n) := (hb1.block _ (Array.getElem?_eq_some_iff.1 K0.out.2.1).1).trans K0.out.2.1
  clear ho1 hb1 b0 b1 b2 bz
  obtain ⟨b0, b1, b2, bz⟩ := blk3d hs1
  have HS1 := hideIt hs1
  clear hs1
  go_wp2_with fail
  refine (HPI.out w1 HB1.out).mono ?_
  rintro e w2 ⟨rfl, hb2⟩
  obtain ⟨⟨x0, x1, x2, x3⟩, hx⟩ : ∃ x, Df.inP ps nm = x := ⟨_, rfl⟩
  rw [hx]
  have HCH : Hid (chgP 5 nm n ps = insP ⟨x0, x1, x2, n⟩ (ps.filter (othN nm))) := by
    show _ = _
    unfold chgP
    rw [hx]
    rfl
  obtain ⟨W2, hW2⟩ : ∃ W2, W2 = w2.alloc (bPl ⟨x0, x1, x2, x3⟩) := ⟨_, rfl⟩
  have hbW : Below w1.heap.size w1 W2 := by rw [hW2]; exact nx_trans hb2 (nx_alloc _ _)
  have K2 : Hid (W2 = w2.alloc (bPl ⟨x0, x1, x2, x3⟩) ∧ W2.heap[w2.heap.size]? = some (bPl ⟨x0, x1, x2, x3⟩) ∧ Below w1.heap.size w1 W2 ∧ W2.heap[w.heap.size]? = some (bSt 5 nm n) ∧ w.heap.size < w2.heap.size) := ⟨hW2, by rw [hW2]; exact heap_alloc_at _ _ rfl, hbW, (hbW.block _ (Array.getElem?_eq_some_iff.1 HS1.out).1).trans HS1.out, Nat.lt_of_lt_of_le (Array.getElem?_eq_some_iff.1 HS1.out).1 hb2.size⟩
  have HW12 : Hid (w1.heap.size ≤ w2.heap.size) := hb2.size
  clear hb2 hW2 hbW hx b0 b1 b2 bz
  go_upto_region 3 with fail
  rw [← K2.out.1]
  obtain ⟨b0, b1, b2, bz⟩ := blk3d K2.out.2.2.2.1
  obtain ⟨p0, p1, p2, p3, pz⟩ := blk4d K2.out.2.1
  obtain ⟨W3, hW3⟩ : ∃ W3, W3 = W2.setCell ⟨w2.heap.size, 3, none⟩ (.int .i64 n) := ⟨_, rfl⟩
  have hle : W0.heap.size ≤ w2.heap.size := by
    have h2 := K2.out.2.2.2.2
    rw [K0.out.1]
    simp
    omega
  have K3 : Hid (W3 = W2.setCell ⟨w2.heap.size, 3, none⟩ (.int .i64 n) ∧ W3.heap[w2.heap.size]? = some (bPl ⟨x0, x1, x2, n⟩) ∧ Below w.heap.size w W3 ∧ W3.ownsRow W0.heap.size 75 4 (.slice vo (ps.filter (othN nm)).length vc) (ps.filter (othN nm)).length (flatP (ps.filter (othN nm)))) := by
    have h5 := own_below HO1.out K2.out.2.2.1
    refine ⟨hW3, by rw [hW3]; exact set_heap _ _ _ _ _ _ K2.out.2.1, by rw [hW3]; exact (nx_trans HB1.out K2.out.2.2.1).setCell (Nat.le_of_lt K2.out.2.2.2.2) _, ?_⟩
    rw [hW3]
    exact ownG_heap h5 (fun j hj => Below.heap_setCell _ _ _ _ (fun e => by
      have h6 := (HO1.out.lt j hj).2
      have h8 : j = w2.heap.size := e
      have h9 := HW12.out
      omega))
  have HIN := hideIt (insert_any ⟨x0, x1, x2, n⟩ vo vc _ (ps.filter (othN nm)) W3 (own_row K3.out.2.2.2) rfl HLN.out)
  clear hW3
  go_upto_region 11 with fail
  rw [← K3.out.1]
  clear b0 b1 b2 bz p0 p1 p2 p3 pz
  obtain ⟨p0, p1, p2, p3, pz⟩ := blk4d K3.out.2.1
  go_wp2_with fail
  refine HIN.out.mono ?_
  rintro e w4 ⟨v, rfl, ho4, hb4⟩
  obtain ⟨vo4, vc4, rfl, _⟩ := own_row ho4
  have KF : Hid (w4.ownsRow w.heap.size 75 4 (.slice vo4 (chgP 5 nm n ps).length vc4) (chgP 5 nm n ps).length (flatP (chgP 5 nm n ps)) ∧ Below w.heap.size w w4) := by
    rw [HCH.out]
    exact ⟨own_mono ho4 K3.out.2.2.1.size, nx_trans K3.out.2.2.1 hb4⟩
  clear ho4 hb4 p0 p1 p2 p3 pz
  go_wp2_with fail
  go_ret
  exact ⟨vo4, vc4, by rw [HCH.out]; rfl, KF.out⟩
set_option maxRecDepth 20000 in
set_option maxHeartbeats 4000000 in
theorem changed6 (so : Option Addr) (n2 sc : Nat) (nm : ByteArray) (n : Int) (ps : List Pl) (w : World) (hr : RowAt w (.slice so n2 sc) n2 (flatP ps)) (hn : ps.length = n2) (hq : n2 ≤ 1001) :
    Calls Tryz.prog 120 #[.slice so n2 sc, stA 6 nm n] w fun e w' => ∃ vo vc, e = .returned (.slice vo (chgP 6 nm n ps).length vc) ∧ w'.ownsRow w.heap.size 75 4 (.slice vo (chgP 6 nm n ps).length vc) (chgP 6 nm n ps).length (flatP (chgP 6 nm n ps)) ∧ Below w.heap.size w w' := by
  obtain ⟨W0, hW0⟩ : ∃ W0, W0 = w.alloc (bSt 6 nm n) := ⟨_, rfl⟩
  have hb0 : Below w.heap.size w W0 := by rw [hW0]; exact nx_alloc _ _
  have K0 : Hid (W0 = w.alloc (bSt 6 nm n) ∧ W0.heap[w.heap.size]? = some (bSt 6 nm n) ∧ Below w.heap.size w W0) := ⟨hW0, by rw [hW0]; exact heap_alloc_at _ _ rfl, hb0⟩
  have HWO := hideIt (cWithout so n2 sc nm ps W0 (hr.nx hb0) hn (by omega))
  have HPI := hideIt (fun u (hu : Below w.heap.size w u) => Df.cPoolIn so n2 sc nm ps u (hr.nx hu) hn (by unfold maxLen; omega))
  have HLN : Hid ((ps.filter (othN nm)).length ≤ 1001) := by
    have := List.length_filter_le (othN nm) ps
    show _ ≤ _
    omega
  clear hr hn hW0 hb0
  go_enter Tryz.func120, Tryz.ntmps120
  go_upto_region 1 with fail
  rw [← K0.out.1]
  obtain ⟨b0, b1, b2, bz⟩ := blk3d K0.out.2.1
  go_wp2_with fail
  refine HWO.out.mono ?_
  rintro e w1 ⟨vo, vc, rfl, ho1, hb1⟩
  have HO1 := hideIt ho1
  have HB1 := hideIt (nx_trans K0.out.2.2 hb1)
  have hs1 : w1.heap[w.heap.size]? = some (bSt 6 nm n) := (hb1.block _ (Array.getElem?_eq_some_iff.1 K0.out.2.1).1).trans K0.out.2.1
  clear ho1 hb1 b0 b1 b2 bz
  obtain ⟨b0, b1, b2, bz⟩ := blk3d hs1
  have HS1 := hideIt hs1
  clear hs1
  go_wp2_with fail
  refine (HPI.out w1 HB1.out).mono ?_
  rintro e w2 ⟨rfl, hb2⟩
  obtain ⟨⟨x0, x1, x2, x3⟩, hx⟩ : ∃ x, Df.inP ps nm = x := ⟨_, rfl⟩
  rw [hx]
  have HCH : Hid (chgP 6 nm n ps = insP ⟨x0, x1, n, x3⟩ (ps.filter (othN nm))) := by
    show _ = _
    unfold chgP
    rw [hx]
    rfl
  obtain ⟨W2, hW2⟩ : ∃ W2, W2 = w2.alloc (bPl ⟨x0, x1, x2, x3⟩) := ⟨_, rfl⟩
  have hbW : Below w1.heap.size w1 W2 := by rw [hW2]; exact nx_trans hb2 (nx_alloc _ _)
  have K2 : Hid (W2 = w2.alloc (bPl ⟨x0, x1, x2, x3⟩) ∧ W2.heap[w2.heap.size]? = some (bPl ⟨x0, x1, x2, x3⟩) ∧ Below w1.heap.size w1 W2 ∧ W2.heap[w.heap.size]? = some (bSt 6 nm n) ∧ w.heap.size < w2.heap.size) := ⟨hW2, by rw [hW2]; exact heap_alloc_at _ _ rfl, hbW, (hbW.block _ (Array.getElem?_eq_some_iff.1 HS1.out).1).trans HS1.out, Nat.lt_of_lt_of_le (Array.getElem?_eq_some_iff.1 HS1.out).1 hb2.size⟩
  have HW12 : Hid (w1.heap.size ≤ w2.heap.size) := hb2.size
  clear hb2 hW2 hbW hx b0 b1 b2 bz
  go_upto_region 3 with fail
  rw [← K2.out.1]
  obtain ⟨b0, b1, b2, bz⟩ := blk3d K2.out.2.2.2.1
  obtain ⟨p0, p1, p2, p3, pz⟩ := blk4d K2.out.2.1
  obtain ⟨W3, hW3⟩ : ∃ W3, W3 = W2.setCell ⟨w2.heap.size, 2, none⟩ (.int .i64 n) := ⟨_, rfl⟩
  have hle : W0.heap.size ≤ w2.heap.size := by
    have h2 := K2.out.2.2.2.2
    rw [K0.out.1]
    simp
    omega
  have K3 : Hid (W3 = W2.setCell ⟨w2.heap.size, 2, none⟩ (.int .i64 n) ∧ W3.heap[w2.heap.size]? = some (bPl ⟨x0, x1, n, x3⟩) ∧ Below w.heap.size w W3 ∧ W3.ownsRow W0.heap.size 75 4 (.slice vo (ps.filter (othN nm)).length vc) (ps.filter (othN nm)).length (flatP (ps.filter (othN nm)))) := by
    have h5 := own_below HO1.out K2.out.2.2.1
    refine ⟨hW3, by rw [hW3]; exact set_heap _ _ _ _ _ _ K2.out.2.1, by rw [hW3]; exact (nx_trans HB1.out K2.out.2.2.1).setCell (Nat.le_of_lt K2.out.2.2.2.2) _, ?_⟩
    rw [hW3]
    exact ownG_heap h5 (fun j hj => Below.heap_setCell _ _ _ _ (fun e => by
      have h6 := (HO1.out.lt j hj).2
      have h8 : j = w2.heap.size := e
      have h9 := HW12.out
      omega))
  have HIN := hideIt (insert_any ⟨x0, x1, n, x3⟩ vo vc _ (ps.filter (othN nm)) W3 (own_row K3.out.2.2.2) rfl HLN.out)
  clear hW3
  go_upto_region 11 with fail
  rw [← K3.out.1]
  clear b0 b1 b2 bz p0 p1 p2 p3 pz
  obtain ⟨p0, p1, p2, p3, pz⟩ := blk4d K3.out.2.1
  go_wp2_with fail
  refine HIN.out.mono ?_
  rintro e w4 ⟨v, rfl, ho4, hb4⟩
  obtain ⟨vo4, vc4, rfl, _⟩ := own_row ho4
  have KF : Hid (w4.ownsRow w.heap.size 75 4 (.slice vo4 (chgP 6 nm n ps).length vc4) (chgP 6 nm n ps).length (flatP (chgP 6 nm n ps)) ∧ Below w.heap.size w w4) := by
    rw [HCH.out]
    exact ⟨own_mono ho4 K3.out.2.2.1.size, nx_trans K3.out.2.2.1 hb4⟩
  clear ho4 hb4 p0 p1 p2 p3 pz
  go_wp2_with fail
  go_ret
  exact ⟨vo4, vc4, by rw [HCH.out]; rfl, KF.out⟩
set_option maxRecDepth 20000 in
set_option maxHeartbeats 4000000 in
theorem changed8 (so : Option Addr) (n2 sc : Nat) (nm : ByteArray) (n : Int) (ps : List Pl) (w : World) (hr : RowAt w (.slice so n2 sc) n2 (flatP ps)) (hn : ps.length = n2) (hq : n2 ≤ 1001) :
    Calls Tryz.prog 120 #[.slice so n2 sc, stA 8 nm n] w fun e w' => ∃ vo vc, e = .returned (.slice vo (chgP 8 nm n ps).length vc) ∧ w'.ownsRow w.heap.size 75 4 (.slice vo (chgP 8 nm n ps).length vc) (chgP 8 nm n ps).length (flatP (chgP 8 nm n ps)) ∧ Below w.heap.size w w' := by
  obtain ⟨W0, hW0⟩ : ∃ W0, W0 = w.alloc (bSt 8 nm n) := ⟨_, rfl⟩
  have hb0 : Below w.heap.size w W0 := by rw [hW0]; exact nx_alloc _ _
  have K0 : Hid (W0 = w.alloc (bSt 8 nm n) ∧ W0.heap[w.heap.size]? = some (bSt 8 nm n) ∧ Below w.heap.size w W0) := ⟨hW0, by rw [hW0]; exact heap_alloc_at _ _ rfl, hb0⟩
  have HWO := hideIt (cWithout so n2 sc nm ps W0 (hr.nx hb0) hn (by omega))
  have HPI := hideIt (fun u (hu : Below w.heap.size w u) => Df.cPoolIn so n2 sc nm ps u (hr.nx hu) hn (by unfold maxLen; omega))
  have HLN : Hid ((ps.filter (othN nm)).length ≤ 1001) := by
    have := List.length_filter_le (othN nm) ps
    show _ ≤ _
    omega
  clear hr hn hW0 hb0
  go_enter Tryz.func120, Tryz.ntmps120
  go_upto_region 1 with fail
  rw [← K0.out.1]
  obtain ⟨b0, b1, b2, bz⟩ := blk3d K0.out.2.1
  go_wp2_with fail
  refine HWO.out.mono ?_
  rintro e w1 ⟨vo, vc, rfl, ho1, hb1⟩
  have HO1 := hideIt ho1
  have HB1 := hideIt (nx_trans K0.out.2.2 hb1)
  have hs1 : w1.heap[w.heap.size]? = some (bSt 8 nm n) := (hb1.block _ (Array.getElem?_eq_some_iff.1 K0.out.2.1).1).trans K0.out.2.1
  clear ho1 hb1 b0 b1 b2 bz
  obtain ⟨b0, b1, b2, bz⟩ := blk3d hs1
  have HS1 := hideIt hs1
  clear hs1
  go_wp2_with fail
  refine (HPI.out w1 HB1.out).mono ?_
  rintro e w2 ⟨rfl, hb2⟩
  obtain ⟨⟨x0, x1, x2, x3⟩, hx⟩ : ∃ x, Df.inP ps nm = x := ⟨_, rfl⟩
  rw [hx]
  have HCH : Hid (chgP 8 nm n ps = insP ⟨x0, n, x2, x3⟩ (ps.filter (othN nm))) := by
    show _ = _
    unfold chgP
    rw [hx]
    rfl
  obtain ⟨W2, hW2⟩ : ∃ W2, W2 = w2.alloc (bPl ⟨x0, x1, x2, x3⟩) := ⟨_, rfl⟩
  have hbW : Below w1.heap.size w1 W2 := by rw [hW2]; exact nx_trans hb2 (nx_alloc _ _)
  have K2 : Hid (W2 = w2.alloc (bPl ⟨x0, x1, x2, x3⟩) ∧ W2.heap[w2.heap.size]? = some (bPl ⟨x0, x1, x2, x3⟩) ∧ Below w1.heap.size w1 W2 ∧ W2.heap[w.heap.size]? = some (bSt 8 nm n) ∧ w.heap.size < w2.heap.size) := ⟨hW2, by rw [hW2]; exact heap_alloc_at _ _ rfl, hbW, (hbW.block _ (Array.getElem?_eq_some_iff.1 HS1.out).1).trans HS1.out, Nat.lt_of_lt_of_le (Array.getElem?_eq_some_iff.1 HS1.out).1 hb2.size⟩
  have HW12 : Hid (w1.heap.size ≤ w2.heap.size) := hb2.size
  clear hb2 hW2 hbW hx b0 b1 b2 bz
  go_upto_region 3 with fail
  rw [← K2.out.1]
  obtain ⟨b0, b1, b2, bz⟩ := blk3d K2.out.2.2.2.1
  obtain ⟨p0, p1, p2, p3, pz⟩ := blk4d K2.out.2.1
  obtain ⟨W3, hW3⟩ : ∃ W3, W3 = W2.setCell ⟨w2.heap.size, 1, none⟩ (.int .i64 n) := ⟨_, rfl⟩
  have hle : W0.heap.size ≤ w2.heap.size := by
    have h2 := K2.out.2.2.2.2
    rw [K0.out.1]
    simp
    omega
  have K3 : Hid (W3 = W2.setCell ⟨w2.heap.size, 1, none⟩ (.int .i64 n) ∧ W3.heap[w2.heap.size]? = some (bPl ⟨x0, n, x2, x3⟩) ∧ Below w.heap.size w W3 ∧ W3.ownsRow W0.heap.size 75 4 (.slice vo (ps.filter (othN nm)).length vc) (ps.filter (othN nm)).length (flatP (ps.filter (othN nm)))) := by
    have h5 := own_below HO1.out K2.out.2.2.1
    refine ⟨hW3, by rw [hW3]; exact set_heap _ _ _ _ _ _ K2.out.2.1, by rw [hW3]; exact (nx_trans HB1.out K2.out.2.2.1).setCell (Nat.le_of_lt K2.out.2.2.2.2) _, ?_⟩
    rw [hW3]
    exact ownG_heap h5 (fun j hj => Below.heap_setCell _ _ _ _ (fun e => by
      have h6 := (HO1.out.lt j hj).2
      have h8 : j = w2.heap.size := e
      have h9 := HW12.out
      omega))
  have HIN := hideIt (insert_any ⟨x0, n, x2, x3⟩ vo vc _ (ps.filter (othN nm)) W3 (own_row K3.out.2.2.2) rfl HLN.out)
  clear hW3
  go_upto_region 11 with fail
  rw [← K3.out.1]
  clear b0 b1 b2 bz p0 p1 p2 p3 pz
  obtain ⟨p0, p1, p2, p3, pz⟩ := blk4d K3.out.2.1
  go_wp2_with fail
  refine HIN.out.mono ?_
  rintro e w4 ⟨v, rfl, ho4, hb4⟩
  obtain ⟨vo4, vc4, rfl, _⟩ := own_row ho4
  have KF : Hid (w4.ownsRow w.heap.size 75 4 (.slice vo4 (chgP 8 nm n ps).length vc4) (chgP 8 nm n ps).length (flatP (chgP 8 nm n ps)) ∧ Below w.heap.size w w4) := by
    rw [HCH.out]
    exact ⟨own_mono ho4 K3.out.2.2.1.size, nx_trans K3.out.2.2.1 hb4⟩
  clear ho4 hb4 p0 p1 p2 p3 pz
  go_wp2_with fail
  go_ret
  exact ⟨vo4, vc4, by rw [HCH.out]; rfl, KF.out⟩
end Lw
end Go.Proofs.YtohbonfngeblkaaGreat
