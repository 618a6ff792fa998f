import Derived.Test.YtmmmjpkhnbfnbaaGreatMgAc
import Derived.BigQuiet
namespace Go.Proofs.YtmmmjpkhnbfnbaaGreat
open Go.RowKit
namespace Lw
open Co

/-- what Ask answers -/
def AskW (w w' : World) (inp : Value) (bud : Int) (ps : List Pl) (ss : List Srv) (ws : List Wtr) (ts : List Stp) (bg bk : Bool) (nx hb : Int) (hs : List Pl) (c : Int) (nm : ByteArray) (e : Ending) : Prop :=
  if 1 ≤ c ∧ c ≤ 99 then
    if ((ss.findIdx? (isCliV c)).isSome || (ws.findIdx? (isCliW c)).isSome) = true then e = .returned (.tuple #[inp, .int .i64 0, .int .i64 11]) ∧ Below w.heap.size w w'
    else match ps.find? (isNameP nm) with
    | none => e = .returned (.tuple #[inp, .int .i64 0, .int .i64 12]) ∧ Below w.heap.size w w'
    | some x => match (servedR bud ps (ws.length + 1) ss (ws ++ [(⟨c, nm⟩ : Wtr)]) nx).1.find? (isCliV c) with
      | some s => ∃ v, e = .returned (.tuple #[v, .int .i64 s.id, .int .i64 0]) ∧ GaveO w.heap.size w w' bud ps (servedR bud ps (ws.length + 1) ss (ws ++ [(⟨c, nm⟩ : Wtr)]) nx).1 (servedR bud ps (ws.length + 1) ss (ws ++ [(⟨c, nm⟩ : Wtr)]) nx).2.1 ts bg bk (servedR bud ps (ws.length + 1) ss (ws ++ [(⟨c, nm⟩ : Wtr)]) nx).2.2 hb hs (.returned v)
      | none => if x.wt < (cntG (isPoolW nm) (servedR bud ps (ws.length + 1) ss (ws ++ [(⟨c, nm⟩ : Wtr)]) nx).2.1 : Int) then e = .returned (.tuple #[inp, .int .i64 0, .int .i64 13]) ∧ Below w.heap.size w w'
        else ∃ v, e = .returned (.tuple #[v, .int .i64 0, .int .i64 0]) ∧ GaveO w.heap.size w w' bud ps (servedR bud ps (ws.length + 1) ss (ws ++ [(⟨c, nm⟩ : Wtr)]) nx).1 (servedR bud ps (ws.length + 1) ss (ws ++ [(⟨c, nm⟩ : Wtr)]) nx).2.1 ts bg bk (servedR bud ps (ws.length + 1) ss (ws ++ [(⟨c, nm⟩ : Wtr)]) nx).2.2 hb hs (.returned v)
  else e = .returned (.tuple #[inp, .int .i64 0, .int .i64 10]) ∧ Below w.heap.size w w'
theorem first_len {bud : Int} {ps : List Pl} {ss : List Srv} {ws : List Wtr} {nx : Int} {y : List Srv × List Wtr × Int} : ∀ (l : List Wtr) (i : Nat), firstR bud ps ss ws nx i l = some y → y.1.length ≤ ss.length + 1 ∧ y.2.1.length ≤ ws.length
  | [], i, h => by simp [firstR] at h
  | c :: r, i, h => by
    unfold firstR at h
    cases hl : lentR bud ps ss ws nx i c with
    | none => rw [hl] at h; exact first_len r (i + 1) h
    | some z =>
      rw [hl] at h
      simp only [Option.some.injEq] at h
      subst h
      obtain ⟨h1, h2, _⟩ := lentR_some hl
      exact ⟨h2, by rw [h1]; exact List.length_eraseIdx_le _ _⟩
theorem served_len : ∀ (f : Nat) (bud : Int) (ps : List Pl) (ss : List Srv) (ws : List Wtr) (nx : Int), (servedR bud ps f ss ws nx).1.length ≤ ss.length + f ∧ (servedR bud ps f ss ws nx).2.1.length ≤ ws.length
  | 0, bud, ps, ss, ws, nx => by unfold servedR; exact ⟨Nat.le_refl _, Nat.le_refl _⟩
  | f + 1, bud, ps, ss, ws, nx => by
    unfold servedR
    cases h : firstR bud ps ss ws nx 0 ws with
    | none => exact ⟨by simp only; omega, Nat.le_refl _⟩
    | some y =>
      have h1 := first_len ws 0 h
      have h2 := served_len f bud ps y.1 y.2.1 y.2.2
      simp only
      omega

set_option maxRecDepth 20000 in
set_option maxHeartbeats 64000000 in
theorem ask_client (bud : Int) (po : Option Addr) (n1 pc : Nat) (so : Option Addr) (n2 sc : Nat) (wo : Option Addr) (n3 wc : Nat) (qo : Option Addr) (n4 tc : Nat) (bg bk : Bool) (nx hb : Int) (ho : Option Addr) (n5 hc : Nat) (ps : List Pl) (ss : List Srv) (ws : List Wtr) (ts : List Stp) (hs : List Pl) (w : World) (c : Int) (nm : ByteArray) (hr1 : RowAt w (.slice po n1 pc) n1 (flatP ps)) (hn1 : ps.length = n1) (hq1 : n1 ≤ 1099511627774) (hr2 : RowAt w (.slice so n2 sc) n2 (flatV ss)) (hn2 : ss.length = n2) (hq2 : n2 ≤ 1099511627774) (hr3 : RowAt w (.slice wo n3 wc) n3 (flatW ws)) (hn3 : ws.length = n3) (hq3 : n3 ≤ 1099511627774) (hr4 : RowAt w (.slice qo n4 tc) n4 (flatT ts)) (hn4 : ts.length = n4) (hq4 : n4 ≤ 1099511627774) (hr5 : RowAt w (.slice ho n5 hc) n5 (flatP hs)) (hn5 : hs.length = n5) (hq5 : n5 ≤ 1099511627774) (hway : ¬ (1 ≤ c ∧ c ≤ 99)) :
    Calls Tryz.prog 35 #[.agg #[.int .i64 bud, .slice po n1 pc, .slice so n2 sc, .slice wo n3 wc, .slice qo n4 tc, .bool bg, .bool bk, .int .i64 nx, .int .i64 hb, .slice ho n5 hc], .int .i64 c, .string nm] w fun e w' => AskW w w' (.agg #[.int .i64 bud, .slice po n1 pc, .slice so n2 sc, .slice wo n3 wc, .slice qo n4 tc, .bool bg, .bool bk, .int .i64 nx, .int .i64 hb, .slice ho n5 hc]) bud ps ss ws ts bg bk nx hb hs c nm e := by
  obtain ⟨W, hW⟩ : ∃ W, W = (w.alloc (bWd (.int .i64 bud) (.slice po n1 pc) (.slice so n2 sc) (.slice wo n3 wc) (.slice qo n4 tc) (.bool bg) (.bool bk) (.int .i64 nx) (.int .i64 hb) (.slice ho n5 hc))).alloc zW := ⟨_, rfl⟩
  have hbW : Below w.heap.size w W := by rw [hW]; exact nx_trans (nx_alloc _ _) (nx_alloc _ _)
  have HW : Hid (W = (w.alloc (bWd (.int .i64 bud) (.slice po n1 pc) (.slice so n2 sc) (.slice wo n3 wc) (.slice qo n4 tc) (.bool bg) (.bool bk) (.int .i64 nx) (.int .i64 hb) (.slice ho n5 hc))).alloc zW ∧ W.heap[w.heap.size]? = some (bWd (.int .i64 bud) (.slice po n1 pc) (.slice so n2 sc) (.slice wo n3 wc) (.slice qo n4 tc) (.bool bg) (.bool bk) (.int .i64 nx) (.int .i64 hb) (.slice ho n5 hc)) ∧ W.heap[w.heap.size + 1]? = some zW ∧ Below w.heap.size w W) := by
    refine ⟨hW, ?_, ?_, hbW⟩
    · rw [hW]; exact (heap_alloc_lt _ _ (by simp)).trans (heap_alloc_at _ _ rfl)
    · rw [hW]; exact heap_alloc_at _ _ (by simp)

  have HPP := hideIt hway
  clear hway
  have HHD := hideIt (rHolds bud po n1 pc so n2 sc wo n3 wc qo n4 tc bg bk nx hb ho n5 hc c ss W (hr2.nx hbW) hn2 (by unfold maxLen; omega))
  have HWT := hideIt (fun u (hb' : Below W.heap.size W u) => rWaits bud po n1 pc so n2 sc wo n3 wc qo n4 tc bg bk nx hb ho n5 hc c ws u ((hr3.nx hbW).nx hb') hn3 (by unfold maxLen; omega))
  have HAT := hideIt (fun u (hb' : Below W.heap.size W u) => rAt bud po n1 pc nm ps u ((hr1.nx hbW).nx hb') hn1 (by unfold maxLen; omega))
  have HCO := hideIt (fun u (hb' : Below W.heap.size W u) => copied_any bud po n1 pc so n2 sc wo n3 wc qo n4 tc bg bk nx hb ho n5 hc ps ss ws ts hs u ((hr1.nx hbW).nx hb') hn1 (by omega) ((hr2.nx hbW).nx hb') hn2 (by omega) ((hr3.nx hbW).nx hb') hn3 (by omega) ((hr4.nx hbW).nx hb') hn4 (by omega) ((hr5.nx hbW).nx hb') hn5 (by omega))
  have HLN : Hid (ps.length = n1 ∧ ss.length = n2 ∧ ws.length = n3 ∧ ts.length = n4 ∧ hs.length = n5) := ⟨hn1, hn2, hn3, hn4, hn5⟩
  clear hr1 hn1 hr2 hn2 hr3 hn3 hr4 hn4 hr5 hn5 hW hbW
  go_enter Tryz.func35, Tryz.ntmps35
  go_wp2_with fail
  rw [← HW.out.1]
  refine (btw_any c 1 99 W).mono ?_
  rintro e w1 ⟨rfl, h1⟩
  obtain rfl := h1.symm
  obtain ⟨a0, a1, a2, a3, a4, a5, a6, a7, a8, a9, az⟩ := blk10 (blk_nx HW.out.2.1 (Below.refl _ W))
  obtain ⟨r0, r1, r2, r3, r4, r5, r6, r7, r8, r9, rz⟩ := blk10 (blk_nx HW.out.2.2.1 (Below.refl _ W))
  by_cases hc1 : 1 ≤ c ∧ c ≤ 99
  · rw [decide_eq_true hc1]
    have HC1 := hideIt hc1
    clear hc1
    go_wp2_with fail
    refine HHD.out.mono ?_
    rintro e w2 ⟨rfl, hb2⟩
    have HB2 := hideIt hb2
    clear hb2
    clear a0 a1 a2 a3 a4 a5 a6 a7 a8 a9 az r0 r1 r2 r3 r4 r5 r6 r7 r8 r9 rz
    obtain ⟨a0, a1, a2, a3, a4, a5, a6, a7, a8, a9, az⟩ := blk10 (blk_nx HW.out.2.1 HB2.out)
    obtain ⟨r0, r1, r2, r3, r4, r5, r6, r7, r8, r9, rz⟩ := blk10 (blk_nx HW.out.2.2.1 HB2.out)
    obtain ⟨hv, hhv⟩ : ∃ hv, optI (ss.findIdx? (isCliV c)) = hv := ⟨_, rfl⟩
    rw [hhv]
    have HHV := hideIt hhv
    clear hhv
    go_wp2_with fail
    refine (HWT.out w2 HB2.out).mono ?_
    rintro e w3 ⟨rfl, hb3⟩
    have HB3 := hideIt (nx_trans HB2.out hb3)
    clear hb3
    obtain ⟨lv, hlv⟩ : ∃ lv, optI (ws.findIdx? (isCliW c)) = lv := ⟨_, rfl⟩
    rw [hlv]
    have HLV := hideIt hlv
    clear hlv
    clear a0 a1 a2 a3 a4 a5 a6 a7 a8 a9 az r0 r1 r2 r3 r4 r5 r6 r7 r8 r9 rz
    obtain ⟨a0, a1, a2, a3, a4, a5, a6, a7, a8, a9, az⟩ := blk10 (blk_nx HW.out.2.1 HB3.out)
    obtain ⟨r0, r1, r2, r3, r4, r5, r6, r7, r8, r9, rz⟩ := blk10 (blk_nx HW.out.2.2.1 HB3.out)
    cases hl : decide (0 ≤ hv) with
    | true =>
      have HL : Hid ((ss.findIdx? (isCliV c)).isSome = true) := by
        show _ = _
        cases hk : ss.findIdx? (isCliV c) with
        | none => have := HHV.out; rw [hk] at this; have h2 := of_decide_eq_true hl; rw [← this] at h2; simp [optI] at h2
        | some k => rfl
      exact absurd HC1.out HPP.out
    | false =>
      have HL : Hid (ss.findIdx? (isCliV c) = none) := by
        show _ = _
        cases hk : ss.findIdx? (isCliV c) with
        | none => rfl
        | some k => have := HHV.out; rw [hk] at this; have h2 := of_decide_eq_false hl; rw [← this] at h2; simp [optI] at h2
      cases hm : decide (0 ≤ lv) with
      | true =>
        have HM : Hid ((ws.findIdx? (isCliW c)).isSome = true) := by
          show _ = _
          cases hk : ws.findIdx? (isCliW c) with
          | none => have := HLV.out; rw [hk] at this; have h2 := of_decide_eq_true hm; rw [← this] at h2; simp [optI] at h2
          | some k => rfl
        exact absurd HC1.out HPP.out
      | false =>
        have HM : Hid (ws.findIdx? (isCliW c) = none) := by
          show _ = _
          cases hk : ws.findIdx? (isCliW c) with
          | none => rfl
          | some k => have := HLV.out; rw [hk] at this; have h2 := of_decide_eq_false hm; rw [← this] at h2; simp [optI] at h2
        go_wp2_with fail
        refine (HAT.out w3 HB3.out).mono ?_
        rintro e w4 ⟨rfl, hb4⟩
        have HB4 := hideIt (nx_trans HB3.out hb4)
        clear hb4
        obtain ⟨pv, hpv⟩ : ∃ pv, optI (ps.findIdx? (isNameP nm)) = pv := ⟨_, rfl⟩
        rw [hpv]
        have HPV := hideIt hpv
        clear hpv
        clear a0 a1 a2 a3 a4 a5 a6 a7 a8 a9 az r0 r1 r2 r3 r4 r5 r6 r7 r8 r9 rz
        obtain ⟨a0, a1, a2, a3, a4, a5, a6, a7, a8, a9, az⟩ := blk10 (blk_nx HW.out.2.1 HB4.out)
        obtain ⟨r0, r1, r2, r3, r4, r5, r6, r7, r8, r9, rz⟩ := blk10 (blk_nx HW.out.2.2.1 HB4.out)
        cases hp : ps.findIdx? (isNameP nm) with
        | none =>
          have HP := hideIt hp
          have hpl : decide (pv < 0) = true := by
            have := HPV.out; rw [hp] at this; rw [← this]; decide
          clear hp
          exact absurd HC1.out HPP.out
        | some p =>
          obtain ⟨⟨x0, x1, x2, x3⟩, hxp, _⟩ := fidx_at hp
          have HFP : Hid (ps.find? (isNameP nm) = some ⟨x0, x1, x2, x3⟩) := by
            obtain ⟨x', h1, h2⟩ := (find_idx (isNameP nm) ps).1 p hp
            rw [hxp] at h1
            show _ = _
            rw [h2, Option.some.inj h1]
          have HXP := hideIt hxp
          have hpn : (p : Int) < (n1 : Int) := by
            have := (List.getElem?_eq_some_iff.1 hxp).1
            rw [HLN.out.1] at this
            omega
          have hpe : pv = (p : Int) := by have := HPV.out; rw [hp] at this; rw [← this]; rfl
          subst hpe
          have h0p : (0 : Int) ≤ (p : Int) := by omega
          have hnp : ¬ (p : Int) < 0 := by omega
          clear hp hxp
          exact absurd HC1.out HPP.out
  · rw [decide_eq_false hc1]
    have HC1 := hideIt hc1
    clear hc1
    have HFW : Hid ((((((((((((W.setCell ⟨w.heap.size + 1, 0, none⟩ (.int .i64 bud)).setCell ⟨w.heap.size + 1, 1, none⟩ (.slice po n1 pc)).setCell ⟨w.heap.size + 1, 2, none⟩ (.slice so n2 sc)).setCell ⟨w.heap.size + 1, 3, none⟩ (.slice wo n3 wc)).setCell ⟨w.heap.size + 1, 4, none⟩ (.slice qo n4 tc)).setCell ⟨w.heap.size + 1, 5, none⟩ (.bool bg)).setCell ⟨w.heap.size + 1, 6, none⟩ (.bool bk)).setCell ⟨w.heap.size + 1, 7, none⟩ (.int .i64 nx)).setCell ⟨w.heap.size + 1, 8, none⟩ (.int .i64 hb)).setCell ⟨w.heap.size + 1, 9, none⟩ (.slice ho n5 hc))).heap[w.heap.size + 1]? = some (bWd (.int .i64 bud) (.slice po n1 pc) (.slice so n2 sc) (.slice wo n3 wc) (.slice qo n4 tc) (.bool bg) (.bool bk) (.int .i64 nx) (.int .i64 hb) (.slice ho n5 hc))) := st10_heap (blk_nx HW.out.2.2.1 (Below.refl _ W)) _ _ _ _ _ _ _ _ _ _
    have HFB : Hid (Below w.heap.size w (((((((((((W.setCell ⟨w.heap.size + 1, 0, none⟩ (.int .i64 bud)).setCell ⟨w.heap.size + 1, 1, none⟩ (.slice po n1 pc)).setCell ⟨w.heap.size + 1, 2, none⟩ (.slice so n2 sc)).setCell ⟨w.heap.size + 1, 3, none⟩ (.slice wo n3 wc)).setCell ⟨w.heap.size + 1, 4, none⟩ (.slice qo n4 tc)).setCell ⟨w.heap.size + 1, 5, none⟩ (.bool bg)).setCell ⟨w.heap.size + 1, 6, none⟩ (.bool bk)).setCell ⟨w.heap.size + 1, 7, none⟩ (.int .i64 nx)).setCell ⟨w.heap.size + 1, 8, none⟩ (.int .i64 hb)).setCell ⟨w.heap.size + 1, 9, none⟩ (.slice ho n5 hc)))) := st10_bel (nx_trans HW.out.2.2.2 (Below.refl _ W)) (by omega) _ _ _ _ _ _ _ _ _ _
    go_wp2_with fail
    obtain ⟨FW, hFW⟩ : ∃ FW, ((((((((((W.setCell ⟨w.heap.size + 1, 0, none⟩ (.int .i64 bud)).setCell ⟨w.heap.size + 1, 1, none⟩ (.slice po n1 pc)).setCell ⟨w.heap.size + 1, 2, none⟩ (.slice so n2 sc)).setCell ⟨w.heap.size + 1, 3, none⟩ (.slice wo n3 wc)).setCell ⟨w.heap.size + 1, 4, none⟩ (.slice qo n4 tc)).setCell ⟨w.heap.size + 1, 5, none⟩ (.bool bg)).setCell ⟨w.heap.size + 1, 6, none⟩ (.bool bk)).setCell ⟨w.heap.size + 1, 7, none⟩ (.int .i64 nx)).setCell ⟨w.heap.size + 1, 8, none⟩ (.int .i64 hb)).setCell ⟨w.heap.size + 1, 9, none⟩ (.slice ho n5 hc)) = FW := ⟨_, rfl⟩
    rw [hFW] at HFW HFB ⊢
    obtain ⟨f0, f1, f2, f3, f4, f5, f6, f7, f8, f9, fz⟩ := blk10 HFW.out
    clear hFW
    refine bodyPost_ret (v := .tuple #[.agg #[.int .i64 bud, .slice po n1 pc, .slice so n2 sc, .slice wo n3 wc, .slice qo n4 tc, .bool bg, .bool bk, .int .i64 nx, .int .i64 hb, .slice ho n5 hc], .int .i64 0, .int .i64 10]) (by simp [results, Tryz.results35, go_sem, f0, f1, f2, f3, f4, f5, f6, f7, f8, f9]) rfl ?_
    unfold AskW
    rw [if_neg HC1.out]
    exact ⟨rfl, HFB.out⟩
set_option maxRecDepth 20000 in
set_option maxHeartbeats 64000000 in
theorem ask_busy1 (bud : Int) (po : Option Addr) (n1 pc : Nat) (so : Option Addr) (n2 sc : Nat) (wo : Option Addr) (n3 wc : Nat) (qo : Option Addr) (n4 tc : Nat) (bg bk : Bool) (nx hb : Int) (ho : Option Addr) (n5 hc : Nat) (ps : List Pl) (ss : List Srv) (ws : List Wtr) (ts : List Stp) (hs : List Pl) (w : World) (c : Int) (nm : ByteArray) (hr1 : RowAt w (.slice po n1 pc) n1 (flatP ps)) (hn1 : ps.length = n1) (hq1 : n1 ≤ 1099511627774) (hr2 : RowAt w (.slice so n2 sc) n2 (flatV ss)) (hn2 : ss.length = n2) (hq2 : n2 ≤ 1099511627774) (hr3 : RowAt w (.slice wo n3 wc) n3 (flatW ws)) (hn3 : ws.length = n3) (hq3 : n3 ≤ 1099511627774) (hr4 : RowAt w (.slice qo n4 tc) n4 (flatT ts)) (hn4 : ts.length = n4) (hq4 : n4 ≤ 1099511627774) (hr5 : RowAt w (.slice ho n5 hc) n5 (flatP hs)) (hn5 : hs.length = n5) (hq5 : n5 ≤ 1099511627774) (hway : (1 ≤ c ∧ c ≤ 99) ∧ (ss.findIdx? (isCliV c)).isSome = true) :
    Calls Tryz.prog 35 #[.agg #[.int .i64 bud, .slice po n1 pc, .slice so n2 sc, .slice wo n3 wc, .slice qo n4 tc, .bool bg, .bool bk, .int .i64 nx, .int .i64 hb, .slice ho n5 hc], .int .i64 c, .string nm] w fun e w' => AskW w w' (.agg #[.int .i64 bud, .slice po n1 pc, .slice so n2 sc, .slice wo n3 wc, .slice qo n4 tc, .bool bg, .bool bk, .int .i64 nx, .int .i64 hb, .slice ho n5 hc]) bud ps ss ws ts bg bk nx hb hs c nm e := by
  obtain ⟨W, hW⟩ : ∃ W, W = (w.alloc (bWd (.int .i64 bud) (.slice po n1 pc) (.slice so n2 sc) (.slice wo n3 wc) (.slice qo n4 tc) (.bool bg) (.bool bk) (.int .i64 nx) (.int .i64 hb) (.slice ho n5 hc))).alloc zW := ⟨_, rfl⟩
  have hbW : Below w.heap.size w W := by rw [hW]; exact nx_trans (nx_alloc _ _) (nx_alloc _ _)
  have HW : Hid (W = (w.alloc (bWd (.int .i64 bud) (.slice po n1 pc) (.slice so n2 sc) (.slice wo n3 wc) (.slice qo n4 tc) (.bool bg) (.bool bk) (.int .i64 nx) (.int .i64 hb) (.slice ho n5 hc))).alloc zW ∧ W.heap[w.heap.size]? = some (bWd (.int .i64 bud) (.slice po n1 pc) (.slice so n2 sc) (.slice wo n3 wc) (.slice qo n4 tc) (.bool bg) (.bool bk) (.int .i64 nx) (.int .i64 hb) (.slice ho n5 hc)) ∧ W.heap[w.heap.size + 1]? = some zW ∧ Below w.heap.size w W) := by
    refine ⟨hW, ?_, ?_, hbW⟩
    · rw [hW]; exact (heap_alloc_lt _ _ (by simp)).trans (heap_alloc_at _ _ rfl)
    · rw [hW]; exact heap_alloc_at _ _ (by simp)

  have HPP := hideIt hway
  clear hway
  have HHD := hideIt (rHolds bud po n1 pc so n2 sc wo n3 wc qo n4 tc bg bk nx hb ho n5 hc c ss W (hr2.nx hbW) hn2 (by unfold maxLen; omega))
  have HWT := hideIt (fun u (hb' : Below W.heap.size W u) => rWaits bud po n1 pc so n2 sc wo n3 wc qo n4 tc bg bk nx hb ho n5 hc c ws u ((hr3.nx hbW).nx hb') hn3 (by unfold maxLen; omega))
  have HAT := hideIt (fun u (hb' : Below W.heap.size W u) => rAt bud po n1 pc nm ps u ((hr1.nx hbW).nx hb') hn1 (by unfold maxLen; omega))
  have HCO := hideIt (fun u (hb' : Below W.heap.size W u) => copied_any bud po n1 pc so n2 sc wo n3 wc qo n4 tc bg bk nx hb ho n5 hc ps ss ws ts hs u ((hr1.nx hbW).nx hb') hn1 (by omega) ((hr2.nx hbW).nx hb') hn2 (by omega) ((hr3.nx hbW).nx hb') hn3 (by omega) ((hr4.nx hbW).nx hb') hn4 (by omega) ((hr5.nx hbW).nx hb') hn5 (by omega))
  have HLN : Hid (ps.length = n1 ∧ ss.length = n2 ∧ ws.length = n3 ∧ ts.length = n4 ∧ hs.length = n5) := ⟨hn1, hn2, hn3, hn4, hn5⟩
  clear hr1 hn1 hr2 hn2 hr3 hn3 hr4 hn4 hr5 hn5 hW hbW
  go_enter Tryz.func35, Tryz.ntmps35
  go_wp2_with fail
  rw [← HW.out.1]
  refine (btw_any c 1 99 W).mono ?_
  rintro e w1 ⟨rfl, h1⟩
  obtain rfl := h1.symm
  obtain ⟨a0, a1, a2, a3, a4, a5, a6, a7, a8, a9, az⟩ := blk10 (blk_nx HW.out.2.1 (Below.refl _ W))
  obtain ⟨r0, r1, r2, r3, r4, r5, r6, r7, r8, r9, rz⟩ := blk10 (blk_nx HW.out.2.2.1 (Below.refl _ W))
  by_cases hc1 : 1 ≤ c ∧ c ≤ 99
  · rw [decide_eq_true hc1]
    have HC1 := hideIt hc1
    clear hc1
    go_wp2_with fail
    refine HHD.out.mono ?_
    rintro e w2 ⟨rfl, hb2⟩
    have HB2 := hideIt hb2
    clear hb2
    clear a0 a1 a2 a3 a4 a5 a6 a7 a8 a9 az r0 r1 r2 r3 r4 r5 r6 r7 r8 r9 rz
    obtain ⟨a0, a1, a2, a3, a4, a5, a6, a7, a8, a9, az⟩ := blk10 (blk_nx HW.out.2.1 HB2.out)
    obtain ⟨r0, r1, r2, r3, r4, r5, r6, r7, r8, r9, rz⟩ := blk10 (blk_nx HW.out.2.2.1 HB2.out)
    obtain ⟨hv, hhv⟩ : ∃ hv, optI (ss.findIdx? (isCliV c)) = hv := ⟨_, rfl⟩
    rw [hhv]
    have HHV := hideIt hhv
    clear hhv
    go_wp2_with fail
    refine (HWT.out w2 HB2.out).mono ?_
    rintro e w3 ⟨rfl, hb3⟩
    have HB3 := hideIt (nx_trans HB2.out hb3)
    clear hb3
    obtain ⟨lv, hlv⟩ : ∃ lv, optI (ws.findIdx? (isCliW c)) = lv := ⟨_, rfl⟩
    rw [hlv]
    have HLV := hideIt hlv
    clear hlv
    clear a0 a1 a2 a3 a4 a5 a6 a7 a8 a9 az r0 r1 r2 r3 r4 r5 r6 r7 r8 r9 rz
    obtain ⟨a0, a1, a2, a3, a4, a5, a6, a7, a8, a9, az⟩ := blk10 (blk_nx HW.out.2.1 HB3.out)
    obtain ⟨r0, r1, r2, r3, r4, r5, r6, r7, r8, r9, rz⟩ := blk10 (blk_nx HW.out.2.2.1 HB3.out)
    cases hl : decide (0 ≤ hv) with
    | true =>
      have HL : Hid ((ss.findIdx? (isCliV c)).isSome = true) := by
        show _ = _
        cases hk : ss.findIdx? (isCliV c) with
        | none => have := HHV.out; rw [hk] at this; have h2 := of_decide_eq_true hl; rw [← this] at h2; simp [optI] at h2
        | some k => rfl
      have HFW : Hid ((((((((((((w3.setCell ⟨w.heap.size + 1, 0, none⟩ (.int .i64 bud)).setCell ⟨w.heap.size + 1, 1, none⟩ (.slice po n1 pc)).setCell ⟨w.heap.size + 1, 2, none⟩ (.slice so n2 sc)).setCell ⟨w.heap.size + 1, 3, none⟩ (.slice wo n3 wc)).setCell ⟨w.heap.size + 1, 4, none⟩ (.slice qo n4 tc)).setCell ⟨w.heap.size + 1, 5, none⟩ (.bool bg)).setCell ⟨w.heap.size + 1, 6, none⟩ (.bool bk)).setCell ⟨w.heap.size + 1, 7, none⟩ (.int .i64 nx)).setCell ⟨w.heap.size + 1, 8, none⟩ (.int .i64 hb)).setCell ⟨w.heap.size + 1, 9, none⟩ (.slice ho n5 hc))).heap[w.heap.size + 1]? = some (bWd (.int .i64 bud) (.slice po n1 pc) (.slice so n2 sc) (.slice wo n3 wc) (.slice qo n4 tc) (.bool bg) (.bool bk) (.int .i64 nx) (.int .i64 hb) (.slice ho n5 hc))) := st10_heap (blk_nx HW.out.2.2.1 HB3.out) _ _ _ _ _ _ _ _ _ _
      have HFB : Hid (Below w.heap.size w (((((((((((w3.setCell ⟨w.heap.size + 1, 0, none⟩ (.int .i64 bud)).setCell ⟨w.heap.size + 1, 1, none⟩ (.slice po n1 pc)).setCell ⟨w.heap.size + 1, 2, none⟩ (.slice so n2 sc)).setCell ⟨w.heap.size + 1, 3, none⟩ (.slice wo n3 wc)).setCell ⟨w.heap.size + 1, 4, none⟩ (.slice qo n4 tc)).setCell ⟨w.heap.size + 1, 5, none⟩ (.bool bg)).setCell ⟨w.heap.size + 1, 6, none⟩ (.bool bk)).setCell ⟨w.heap.size + 1, 7, none⟩ (.int .i64 nx)).setCell ⟨w.heap.size + 1, 8, none⟩ (.int .i64 hb)).setCell ⟨w.heap.size + 1, 9, none⟩ (.slice ho n5 hc)))) := st10_bel (nx_trans HW.out.2.2.2 HB3.out) (by omega) _ _ _ _ _ _ _ _ _ _
      go_wp2_with fail
      obtain ⟨FW, hFW⟩ : ∃ FW, ((((((((((w3.setCell ⟨w.heap.size + 1, 0, none⟩ (.int .i64 bud)).setCell ⟨w.heap.size + 1, 1, none⟩ (.slice po n1 pc)).setCell ⟨w.heap.size + 1, 2, none⟩ (.slice so n2 sc)).setCell ⟨w.heap.size + 1, 3, none⟩ (.slice wo n3 wc)).setCell ⟨w.heap.size + 1, 4, none⟩ (.slice qo n4 tc)).setCell ⟨w.heap.size + 1, 5, none⟩ (.bool bg)).setCell ⟨w.heap.size + 1, 6, none⟩ (.bool bk)).setCell ⟨w.heap.size + 1, 7, none⟩ (.int .i64 nx)).setCell ⟨w.heap.size + 1, 8, none⟩ (.int .i64 hb)).setCell ⟨w.heap.size + 1, 9, none⟩ (.slice ho n5 hc)) = FW := ⟨_, rfl⟩
      rw [hFW] at HFW HFB ⊢
      obtain ⟨f0, f1, f2, f3, f4, f5, f6, f7, f8, f9, fz⟩ := blk10 HFW.out
      clear hFW
      refine bodyPost_ret (v := .tuple #[.agg #[.int .i64 bud, .slice po n1 pc, .slice so n2 sc, .slice wo n3 wc, .slice qo n4 tc, .bool bg, .bool bk, .int .i64 nx, .int .i64 hb, .slice ho n5 hc], .int .i64 0, .int .i64 11]) (by simp [results, Tryz.results35, go_sem, f0, f1, f2, f3, f4, f5, f6, f7, f8, f9]) rfl ?_
      unfold AskW
      rw [if_pos HC1.out, HL.out, if_pos (by simp)]
      exact ⟨rfl, HFB.out⟩
    | false =>
      have HL : Hid (ss.findIdx? (isCliV c) = none) := by
        show _ = _
        cases hk : ss.findIdx? (isCliV c) with
        | none => rfl
        | some k => have := HHV.out; rw [hk] at this; have h2 := of_decide_eq_false hl; rw [← this] at h2; simp [optI] at h2
      cases hm : decide (0 ≤ lv) with
      | true =>
        have HM : Hid ((ws.findIdx? (isCliW c)).isSome = true) := by
          show _ = _
          cases hk : ws.findIdx? (isCliW c) with
          | none => have := HLV.out; rw [hk] at this; have h2 := of_decide_eq_true hm; rw [← this] at h2; simp [optI] at h2
          | some k => rfl
        exact absurd HPP.out.2 (by rw [HL.out]; simp)
      | false =>
        have HM : Hid (ws.findIdx? (isCliW c) = none) := by
          show _ = _
          cases hk : ws.findIdx? (isCliW c) with
          | none => rfl
          | some k => have := HLV.out; rw [hk] at this; have h2 := of_decide_eq_false hm; rw [← this] at h2; simp [optI] at h2
        go_wp2_with fail
        refine (HAT.out w3 HB3.out).mono ?_
        rintro e w4 ⟨rfl, hb4⟩
        have HB4 := hideIt (nx_trans HB3.out hb4)
        clear hb4
        obtain ⟨pv, hpv⟩ : ∃ pv, optI (ps.findIdx? (isNameP nm)) = pv := ⟨_, rfl⟩
        rw [hpv]
        have HPV := hideIt hpv
        clear hpv
        clear a0 a1 a2 a3 a4 a5 a6 a7 a8 a9 az r0 r1 r2 r3 r4 r5 r6 r7 r8 r9 rz
        obtain ⟨a0, a1, a2, a3, a4, a5, a6, a7, a8, a9, az⟩ := blk10 (blk_nx HW.out.2.1 HB4.out)
        obtain ⟨r0, r1, r2, r3, r4, r5, r6, r7, r8, r9, rz⟩ := blk10 (blk_nx HW.out.2.2.1 HB4.out)
        cases hp : ps.findIdx? (isNameP nm) with
        | none =>
          have HP := hideIt hp
          have hpl : decide (pv < 0) = true := by
            have := HPV.out; rw [hp] at this; rw [← this]; decide
          clear hp
          exact absurd HPP.out.2 (by rw [HL.out]; simp)
        | some p =>
          obtain ⟨⟨x0, x1, x2, x3⟩, hxp, _⟩ := fidx_at hp
          have HFP : Hid (ps.find? (isNameP nm) = some ⟨x0, x1, x2, x3⟩) := by
            obtain ⟨x', h1, h2⟩ := (find_idx (isNameP nm) ps).1 p hp
            rw [hxp] at h1
            show _ = _
            rw [h2, Option.some.inj h1]
          have HXP := hideIt hxp
          have hpn : (p : Int) < (n1 : Int) := by
            have := (List.getElem?_eq_some_iff.1 hxp).1
            rw [HLN.out.1] at this
            omega
          have hpe : pv = (p : Int) := by have := HPV.out; rw [hp] at this; rw [← this]; rfl
          subst hpe
          have h0p : (0 : Int) ≤ (p : Int) := by omega
          have hnp : ¬ (p : Int) < 0 := by omega
          clear hp hxp
          exact absurd HPP.out.2 (by rw [HL.out]; simp)
  · rw [decide_eq_false hc1]
    have HC1 := hideIt hc1
    clear hc1
    exact absurd HPP.out.1 HC1.out
set_option maxRecDepth 20000 in
set_option maxHeartbeats 64000000 in
theorem ask_busy2 (bud : Int) (po : Option Addr) (n1 pc : Nat) (so : Option Addr) (n2 sc : Nat) (wo : Option Addr) (n3 wc : Nat) (qo : Option Addr) (n4 tc : Nat) (bg bk : Bool) (nx hb : Int) (ho : Option Addr) (n5 hc : Nat) (ps : List Pl) (ss : List Srv) (ws : List Wtr) (ts : List Stp) (hs : List Pl) (w : World) (c : Int) (nm : ByteArray) (hr1 : RowAt w (.slice po n1 pc) n1 (flatP ps)) (hn1 : ps.length = n1) (hq1 : n1 ≤ 1099511627774) (hr2 : RowAt w (.slice so n2 sc) n2 (flatV ss)) (hn2 : ss.length = n2) (hq2 : n2 ≤ 1099511627774) (hr3 : RowAt w (.slice wo n3 wc) n3 (flatW ws)) (hn3 : ws.length = n3) (hq3 : n3 ≤ 1099511627774) (hr4 : RowAt w (.slice qo n4 tc) n4 (flatT ts)) (hn4 : ts.length = n4) (hq4 : n4 ≤ 1099511627774) (hr5 : RowAt w (.slice ho n5 hc) n5 (flatP hs)) (hn5 : hs.length = n5) (hq5 : n5 ≤ 1099511627774) (hway : (1 ≤ c ∧ c ≤ 99) ∧ ss.findIdx? (isCliV c) = none ∧ (ws.findIdx? (isCliW c)).isSome = true) :
    Calls Tryz.prog 35 #[.agg #[.int .i64 bud, .slice po n1 pc, .slice so n2 sc, .slice wo n3 wc, .slice qo n4 tc, .bool bg, .bool bk, .int .i64 nx, .int .i64 hb, .slice ho n5 hc], .int .i64 c, .string nm] w fun e w' => AskW w w' (.agg #[.int .i64 bud, .slice po n1 pc, .slice so n2 sc, .slice wo n3 wc, .slice qo n4 tc, .bool bg, .bool bk, .int .i64 nx, .int .i64 hb, .slice ho n5 hc]) bud ps ss ws ts bg bk nx hb hs c nm e := by
  obtain ⟨W, hW⟩ : ∃ W, W = (w.alloc (bWd (.int .i64 bud) (.slice po n1 pc) (.slice so n2 sc) (.slice wo n3 wc) (.slice qo n4 tc) (.bool bg) (.bool bk) (.int .i64 nx) (.int .i64 hb) (.slice ho n5 hc))).alloc zW := ⟨_, rfl⟩
  have hbW : Below w.heap.size w W := by rw [hW]; exact nx_trans (nx_alloc _ _) (nx_alloc _ _)
  have HW : Hid (W = (w.alloc (bWd (.int .i64 bud) (.slice po n1 pc) (.slice so n2 sc) (.slice wo n3 wc) (.slice qo n4 tc) (.bool bg) (.bool bk) (.int .i64 nx) (.int .i64 hb) (.slice ho n5 hc))).alloc zW ∧ W.heap[w.heap.size]? = some (bWd (.int .i64 bud) (.slice po n1 pc) (.slice so n2 sc) (.slice wo n3 wc) (.slice qo n4 tc) (.bool bg) (.bool bk) (.int .i64 nx) (.int .i64 hb) (.slice ho n5 hc)) ∧ W.heap[w.heap.size + 1]? = some zW ∧ Below w.heap.size w W) := by
    refine ⟨hW, ?_, ?_, hbW⟩
    · rw [hW]; exact (heap_alloc_lt _ _ (by simp)).trans (heap_alloc_at _ _ rfl)
    · rw [hW]; exact heap_alloc_at _ _ (by simp)

  have HPP := hideIt hway
  clear hway
  have HHD := hideIt (rHolds bud po n1 pc so n2 sc wo n3 wc qo n4 tc bg bk nx hb ho n5 hc c ss W (hr2.nx hbW) hn2 (by unfold maxLen; omega))
  have HWT := hideIt (fun u (hb' : Below W.heap.size W u) => rWaits bud po n1 pc so n2 sc wo n3 wc qo n4 tc bg bk nx hb ho n5 hc c ws u ((hr3.nx hbW).nx hb') hn3 (by unfold maxLen; omega))
  have HAT := hideIt (fun u (hb' : Below W.heap.size W u) => rAt bud po n1 pc nm ps u ((hr1.nx hbW).nx hb') hn1 (by unfold maxLen; omega))
  have HCO := hideIt (fun u (hb' : Below W.heap.size W u) => copied_any bud po n1 pc so n2 sc wo n3 wc qo n4 tc bg bk nx hb ho n5 hc ps ss ws ts hs u ((hr1.nx hbW).nx hb') hn1 (by omega) ((hr2.nx hbW).nx hb') hn2 (by omega) ((hr3.nx hbW).nx hb') hn3 (by omega) ((hr4.nx hbW).nx hb') hn4 (by omega) ((hr5.nx hbW).nx hb') hn5 (by omega))
  have HLN : Hid (ps.length = n1 ∧ ss.length = n2 ∧ ws.length = n3 ∧ ts.length = n4 ∧ hs.length = n5) := ⟨hn1, hn2, hn3, hn4, hn5⟩
  clear hr1 hn1 hr2 hn2 hr3 hn3 hr4 hn4 hr5 hn5 hW hbW
  go_enter Tryz.func35, Tryz.ntmps35
  go_wp2_with fail
  rw [← HW.out.1]
  refine (btw_any c 1 99 W).mono ?_
  rintro e w1 ⟨rfl, h1⟩
  obtain rfl := h1.symm
  obtain ⟨a0, a1, a2, a3, a4, a5, a6, a7, a8, a9, az⟩ := blk10 (blk_nx HW.out.2.1 (Below.refl _ W))
  obtain ⟨r0, r1, r2, r3, r4, r5, r6, r7, r8, r9, rz⟩ := blk10 (blk_nx HW.out.2.2.1 (Below.refl _ W))
  by_cases hc1 : 1 ≤ c ∧ c ≤ 99
  · rw [decide_eq_true hc1]
    have HC1 := hideIt hc1
    clear hc1
    go_wp2_with fail
    refine HHD.out.mono ?_
    rintro e w2 ⟨rfl, hb2⟩
    have HB2 := hideIt hb2
    clear hb2
    clear a0 a1 a2 a3 a4 a5 a6 a7 a8 a9 az r0 r1 r2 r3 r4 r5 r6 r7 r8 r9 rz
    obtain ⟨a0, a1, a2, a3, a4, a5, a6, a7, a8, a9, az⟩ := blk10 (blk_nx HW.out.2.1 HB2.out)
    obtain ⟨r0, r1, r2, r3, r4, r5, r6, r7, r8, r9, rz⟩ := blk10 (blk_nx HW.out.2.2.1 HB2.out)
    obtain ⟨hv, hhv⟩ : ∃ hv, optI (ss.findIdx? (isCliV c)) = hv := ⟨_, rfl⟩
    rw [hhv]
    have HHV := hideIt hhv
    clear hhv
    go_wp2_with fail
    refine (HWT.out w2 HB2.out).mono ?_
    rintro e w3 ⟨rfl, hb3⟩
    have HB3 := hideIt (nx_trans HB2.out hb3)
    clear hb3
    obtain ⟨lv, hlv⟩ : ∃ lv, optI (ws.findIdx? (isCliW c)) = lv := ⟨_, rfl⟩
    rw [hlv]
    have HLV := hideIt hlv
    clear hlv
    clear a0 a1 a2 a3 a4 a5 a6 a7 a8 a9 az r0 r1 r2 r3 r4 r5 r6 r7 r8 r9 rz
    obtain ⟨a0, a1, a2, a3, a4, a5, a6, a7, a8, a9, az⟩ := blk10 (blk_nx HW.out.2.1 HB3.out)
    obtain ⟨r0, r1, r2, r3, r4, r5, r6, r7, r8, r9, rz⟩ := blk10 (blk_nx HW.out.2.2.1 HB3.out)
    cases hl : decide (0 ≤ hv) with
    | true =>
      have HL : Hid ((ss.findIdx? (isCliV c)).isSome = true) := by
        show _ = _
        cases hk : ss.findIdx? (isCliV c) with
        | none => have := HHV.out; rw [hk] at this; have h2 := of_decide_eq_true hl; rw [← this] at h2; simp [optI] at h2
        | some k => rfl
      exact absurd HL.out (by rw [HPP.out.2.1]; simp)
    | false =>
      have HL : Hid (ss.findIdx? (isCliV c) = none) := by
        show _ = _
        cases hk : ss.findIdx? (isCliV c) with
        | none => rfl
        | some k => have := HHV.out; rw [hk] at this; have h2 := of_decide_eq_false hl; rw [← this] at h2; simp [optI] at h2
      cases hm : decide (0 ≤ lv) with
      | true =>
        have HM : Hid ((ws.findIdx? (isCliW c)).isSome = true) := by
          show _ = _
          cases hk : ws.findIdx? (isCliW c) with
          | none => have := HLV.out; rw [hk] at this; have h2 := of_decide_eq_true hm; rw [← this] at h2; simp [optI] at h2
          | some k => rfl
        have HFW : Hid ((((((((((((w3.setCell ⟨w.heap.size + 1, 0, none⟩ (.int .i64 bud)).setCell ⟨w.heap.size + 1, 1, none⟩ (.slice po n1 pc)).setCell ⟨w.heap.size + 1, 2, none⟩ (.slice so n2 sc)).setCell ⟨w.heap.size + 1, 3, none⟩ (.slice wo n3 wc)).setCell ⟨w.heap.size + 1, 4, none⟩ (.slice qo n4 tc)).setCell ⟨w.heap.size + 1, 5, none⟩ (.bool bg)).setCell ⟨w.heap.size + 1, 6, none⟩ (.bool bk)).setCell ⟨w.heap.size + 1, 7, none⟩ (.int .i64 nx)).setCell ⟨w.heap.size + 1, 8, none⟩ (.int .i64 hb)).setCell ⟨w.heap.size + 1, 9, none⟩ (.slice ho n5 hc))).heap[w.heap.size + 1]? = some (bWd (.int .i64 bud) (.slice po n1 pc) (.slice so n2 sc) (.slice wo n3 wc) (.slice qo n4 tc) (.bool bg) (.bool bk) (.int .i64 nx) (.int .i64 hb) (.slice ho n5 hc))) := st10_heap (blk_nx HW.out.2.2.1 HB3.out) _ _ _ _ _ _ _ _ _ _
        have HFB : Hid (Below w.heap.size w (((((((((((w3.setCell ⟨w.heap.size + 1, 0, none⟩ (.int .i64 bud)).setCell ⟨w.heap.size + 1, 1, none⟩ (.slice po n1 pc)).setCell ⟨w.heap.size + 1, 2, none⟩ (.slice so n2 sc)).setCell ⟨w.heap.size + 1, 3, none⟩ (.slice wo n3 wc)).setCell ⟨w.heap.size + 1, 4, none⟩ (.slice qo n4 tc)).setCell ⟨w.heap.size + 1, 5, none⟩ (.bool bg)).setCell ⟨w.heap.size + 1, 6, none⟩ (.bool bk)).setCell ⟨w.heap.size + 1, 7, none⟩ (.int .i64 nx)).setCell ⟨w.heap.size + 1, 8, none⟩ (.int .i64 hb)).setCell ⟨w.heap.size + 1, 9, none⟩ (.slice ho n5 hc)))) := st10_bel (nx_trans HW.out.2.2.2 HB3.out) (by omega) _ _ _ _ _ _ _ _ _ _
        go_wp2_with fail
        obtain ⟨FW, hFW⟩ : ∃ FW, ((((((((((w3.setCell ⟨w.heap.size + 1, 0, none⟩ (.int .i64 bud)).setCell ⟨w.heap.size + 1, 1, none⟩ (.slice po n1 pc)).setCell ⟨w.heap.size + 1, 2, none⟩ (.slice so n2 sc)).setCell ⟨w.heap.size + 1, 3, none⟩ (.slice wo n3 wc)).setCell ⟨w.heap.size + 1, 4, none⟩ (.slice qo n4 tc)).setCell ⟨w.heap.size + 1, 5, none⟩ (.bool bg)).setCell ⟨w.heap.size + 1, 6, none⟩ (.bool bk)).setCell ⟨w.heap.size + 1, 7, none⟩ (.int .i64 nx)).setCell ⟨w.heap.size + 1, 8, none⟩ (.int .i64 hb)).setCell ⟨w.heap.size + 1, 9, none⟩ (.slice ho n5 hc)) = FW := ⟨_, rfl⟩
        rw [hFW] at HFW HFB ⊢
        obtain ⟨f0, f1, f2, f3, f4, f5, f6, f7, f8, f9, fz⟩ := blk10 HFW.out
        clear hFW
        refine bodyPost_ret (v := .tuple #[.agg #[.int .i64 bud, .slice po n1 pc, .slice so n2 sc, .slice wo n3 wc, .slice qo n4 tc, .bool bg, .bool bk, .int .i64 nx, .int .i64 hb, .slice ho n5 hc], .int .i64 0, .int .i64 11]) (by simp [results, Tryz.results35, go_sem, f0, f1, f2, f3, f4, f5, f6, f7, f8, f9]) rfl ?_
        unfold AskW
        rw [if_pos HC1.out, HL.out, HM.out, if_pos (by simp)]
        exact ⟨rfl, HFB.out⟩
      | false =>
        have HM : Hid (ws.findIdx? (isCliW c) = none) := by
          show _ = _
          cases hk : ws.findIdx? (isCliW c) with
          | none => rfl
          | some k => have := HLV.out; rw [hk] at this; have h2 := of_decide_eq_false hm; rw [← this] at h2; simp [optI] at h2
        go_wp2_with fail
        refine (HAT.out w3 HB3.out).mono ?_
        rintro e w4 ⟨rfl, hb4⟩
        have HB4 := hideIt (nx_trans HB3.out hb4)
        clear hb4
        obtain ⟨pv, hpv⟩ : ∃ pv, optI (ps.findIdx? (isNameP nm)) = pv := ⟨_, rfl⟩
        rw [hpv]
        have HPV := hideIt hpv
        clear hpv
        clear a0 a1 a2 a3 a4 a5 a6 a7 a8 a9 az r0 r1 r2 r3 r4 r5 r6 r7 r8 r9 rz
        obtain ⟨a0, a1, a2, a3, a4, a5, a6, a7, a8, a9, az⟩ := blk10 (blk_nx HW.out.2.1 HB4.out)
        obtain ⟨r0, r1, r2, r3, r4, r5, r6, r7, r8, r9, rz⟩ := blk10 (blk_nx HW.out.2.2.1 HB4.out)
        cases hp : ps.findIdx? (isNameP nm) with
        | none =>
          have HP := hideIt hp
          have hpl : decide (pv < 0) = true := by
            have := HPV.out; rw [hp] at this; rw [← this]; decide
          clear hp
          exact absurd HPP.out.2.2 (by rw [HM.out]; simp)
        | some p =>
          obtain ⟨⟨x0, x1, x2, x3⟩, hxp, _⟩ := fidx_at hp
          have HFP : Hid (ps.find? (isNameP nm) = some ⟨x0, x1, x2, x3⟩) := by
            obtain ⟨x', h1, h2⟩ := (find_idx (isNameP nm) ps).1 p hp
            rw [hxp] at h1
            show _ = _
            rw [h2, Option.some.inj h1]
          have HXP := hideIt hxp
          have hpn : (p : Int) < (n1 : Int) := by
            have := (List.getElem?_eq_some_iff.1 hxp).1
            rw [HLN.out.1] at this
            omega
          have hpe : pv = (p : Int) := by have := HPV.out; rw [hp] at this; rw [← this]; rfl
          subst hpe
          have h0p : (0 : Int) ≤ (p : Int) := by omega
          have hnp : ¬ (p : Int) < 0 := by omega
          clear hp hxp
          exact absurd HPP.out.2.2 (by rw [HM.out]; simp)
  · rw [decide_eq_false hc1]
    have HC1 := hideIt hc1
    clear hc1
    exact absurd HPP.out.1 HC1.out
set_option maxRecDepth 20000 in
set_option maxHeartbeats 64000000 in
theorem ask_pool (bud : Int) (po : Option Addr) (n1 pc : Nat) (so : Option Addr) (n2 sc : Nat) (wo : Option Addr) (n3 wc : Nat) (qo : Option Addr) (n4 tc : Nat) (bg bk : Bool) (nx hb : Int) (ho : Option Addr) (n5 hc : Nat) (ps : List Pl) (ss : List Srv) (ws : List Wtr) (ts : List Stp) (hs : List Pl) (w : World) (c : Int) (nm : ByteArray) (hr1 : RowAt w (.slice po n1 pc) n1 (flatP ps)) (hn1 : ps.length = n1) (hq1 : n1 ≤ 1099511627774) (hr2 : RowAt w (.slice so n2 sc) n2 (flatV ss)) (hn2 : ss.length = n2) (hq2 : n2 ≤ 1099511627774) (hr3 : RowAt w (.slice wo n3 wc) n3 (flatW ws)) (hn3 : ws.length = n3) (hq3 : n3 ≤ 1099511627774) (hr4 : RowAt w (.slice qo n4 tc) n4 (flatT ts)) (hn4 : ts.length = n4) (hq4 : n4 ≤ 1099511627774) (hr5 : RowAt w (.slice ho n5 hc) n5 (flatP hs)) (hn5 : hs.length = n5) (hq5 : n5 ≤ 1099511627774) (hway : (1 ≤ c ∧ c ≤ 99) ∧ ss.findIdx? (isCliV c) = none ∧ ws.findIdx? (isCliW c) = none ∧ ps.findIdx? (isNameP nm) = none) :
    Calls Tryz.prog 35 #[.agg #[.int .i64 bud, .slice po n1 pc, .slice so n2 sc, .slice wo n3 wc, .slice qo n4 tc, .bool bg, .bool bk, .int .i64 nx, .int .i64 hb, .slice ho n5 hc], .int .i64 c, .string nm] w fun e w' => AskW w w' (.agg #[.int .i64 bud, .slice po n1 pc, .slice so n2 sc, .slice wo n3 wc, .slice qo n4 tc, .bool bg, .bool bk, .int .i64 nx, .int .i64 hb, .slice ho n5 hc]) bud ps ss ws ts bg bk nx hb hs c nm e := by
  obtain ⟨W, hW⟩ : ∃ W, W = (w.alloc (bWd (.int .i64 bud) (.slice po n1 pc) (.slice so n2 sc) (.slice wo n3 wc) (.slice qo n4 tc) (.bool bg) (.bool bk) (.int .i64 nx) (.int .i64 hb) (.slice ho n5 hc))).alloc zW := ⟨_, rfl⟩
  have hbW : Below w.heap.size w W := by rw [hW]; exact nx_trans (nx_alloc _ _) (nx_alloc _ _)
  have HW : Hid (W = (w.alloc (bWd (.int .i64 bud) (.slice po n1 pc) (.slice so n2 sc) (.slice wo n3 wc) (.slice qo n4 tc) (.bool bg) (.bool bk) (.int .i64 nx) (.int .i64 hb) (.slice ho n5 hc))).alloc zW ∧ W.heap[w.heap.size]? = some (bWd (.int .i64 bud) (.slice po n1 pc) (.slice so n2 sc) (.slice wo n3 wc) (.slice qo n4 tc) (.bool bg) (.bool bk) (.int .i64 nx) (.int .i64 hb) (.slice ho n5 hc)) ∧ W.heap[w.heap.size + 1]? = some zW ∧ Below w.heap.size w W) := by
    refine ⟨hW, ?_, ?_, hbW⟩
    · rw [hW]; exact (heap_alloc_lt _ _ (by simp)).trans (heap_alloc_at _ _ rfl)
    · rw [hW]; exact heap_alloc_at _ _ (by simp)

  have HPP := hideIt hway
  clear hway
  have HHD := hideIt (rHolds bud po n1 pc so n2 sc wo n3 wc qo n4 tc bg bk nx hb ho n5 hc c ss W (hr2.nx hbW) hn2 (by unfold maxLen; omega))
  have HWT := hideIt (fun u (hb' : Below W.heap.size W u) => rWaits bud po n1 pc so n2 sc wo n3 wc qo n4 tc bg bk nx hb ho n5 hc c ws u ((hr3.nx hbW).nx hb') hn3 (by unfold maxLen; omega))
  have HAT := hideIt (fun u (hb' : Below W.heap.size W u) => rAt bud po n1 pc nm ps u ((hr1.nx hbW).nx hb') hn1 (by unfold maxLen; omega))
  have HCO := hideIt (fun u (hb' : Below W.heap.size W u) => copied_any bud po n1 pc so n2 sc wo n3 wc qo n4 tc bg bk nx hb ho n5 hc ps ss ws ts hs u ((hr1.nx hbW).nx hb') hn1 (by omega) ((hr2.nx hbW).nx hb') hn2 (by omega) ((hr3.nx hbW).nx hb') hn3 (by omega) ((hr4.nx hbW).nx hb') hn4 (by omega) ((hr5.nx hbW).nx hb') hn5 (by omega))
  have HLN : Hid (ps.length = n1 ∧ ss.length = n2 ∧ ws.length = n3 ∧ ts.length = n4 ∧ hs.length = n5) := ⟨hn1, hn2, hn3, hn4, hn5⟩
  clear hr1 hn1 hr2 hn2 hr3 hn3 hr4 hn4 hr5 hn5 hW hbW
  go_enter Tryz.func35, Tryz.ntmps35
  go_wp2_with fail
  rw [← HW.out.1]
  refine (btw_any c 1 99 W).mono ?_
  rintro e w1 ⟨rfl, h1⟩
  obtain rfl := h1.symm
  obtain ⟨a0, a1, a2, a3, a4, a5, a6, a7, a8, a9, az⟩ := blk10 (blk_nx HW.out.2.1 (Below.refl _ W))
  obtain ⟨r0, r1, r2, r3, r4, r5, r6, r7, r8, r9, rz⟩ := blk10 (blk_nx HW.out.2.2.1 (Below.refl _ W))
  by_cases hc1 : 1 ≤ c ∧ c ≤ 99
  · rw [decide_eq_true hc1]
    have HC1 := hideIt hc1
    clear hc1
    go_wp2_with fail
    refine HHD.out.mono ?_
    rintro e w2 ⟨rfl, hb2⟩
    have HB2 := hideIt hb2
    clear hb2
    clear a0 a1 a2 a3 a4 a5 a6 a7 a8 a9 az r0 r1 r2 r3 r4 r5 r6 r7 r8 r9 rz
    obtain ⟨a0, a1, a2, a3, a4, a5, a6, a7, a8, a9, az⟩ := blk10 (blk_nx HW.out.2.1 HB2.out)
    obtain ⟨r0, r1, r2, r3, r4, r5, r6, r7, r8, r9, rz⟩ := blk10 (blk_nx HW.out.2.2.1 HB2.out)
    obtain ⟨hv, hhv⟩ : ∃ hv, optI (ss.findIdx? (isCliV c)) = hv := ⟨_, rfl⟩
    rw [hhv]
    have HHV := hideIt hhv
    clear hhv
    go_wp2_with fail
    refine (HWT.out w2 HB2.out).mono ?_
    rintro e w3 ⟨rfl, hb3⟩
    have HB3 := hideIt (nx_trans HB2.out hb3)
    clear hb3
    obtain ⟨lv, hlv⟩ : ∃ lv, optI (ws.findIdx? (isCliW c)) = lv := ⟨_, rfl⟩
    rw [hlv]
    have HLV := hideIt hlv
    clear hlv
    clear a0 a1 a2 a3 a4 a5 a6 a7 a8 a9 az r0 r1 r2 r3 r4 r5 r6 r7 r8 r9 rz
    obtain ⟨a0, a1, a2, a3, a4, a5, a6, a7, a8, a9, az⟩ := blk10 (blk_nx HW.out.2.1 HB3.out)
    obtain ⟨r0, r1, r2, r3, r4, r5, r6, r7, r8, r9, rz⟩ := blk10 (blk_nx HW.out.2.2.1 HB3.out)
    cases hl : decide (0 ≤ hv) with
    | true =>
      have HL : Hid ((ss.findIdx? (isCliV c)).isSome = true) := by
        show _ = _
        cases hk : ss.findIdx? (isCliV c) with
        | none => have := HHV.out; rw [hk] at this; have h2 := of_decide_eq_true hl; rw [← this] at h2; simp [optI] at h2
        | some k => rfl
      exact absurd HL.out (by rw [HPP.out.2.1]; simp)
    | false =>
      have HL : Hid (ss.findIdx? (isCliV c) = none) := by
        show _ = _
        cases hk : ss.findIdx? (isCliV c) with
        | none => rfl
        | some k => have := HHV.out; rw [hk] at this; have h2 := of_decide_eq_false hl; rw [← this] at h2; simp [optI] at h2
      cases hm : decide (0 ≤ lv) with
      | true =>
        have HM : Hid ((ws.findIdx? (isCliW c)).isSome = true) := by
          show _ = _
          cases hk : ws.findIdx? (isCliW c) with
          | none => have := HLV.out; rw [hk] at this; have h2 := of_decide_eq_true hm; rw [← this] at h2; simp [optI] at h2
          | some k => rfl
        exact absurd HM.out (by rw [HPP.out.2.2.1]; simp)
      | false =>
        have HM : Hid (ws.findIdx? (isCliW c) = none) := by
          show _ = _
          cases hk : ws.findIdx? (isCliW c) with
          | none => rfl
          | some k => have := HLV.out; rw [hk] at this; have h2 := of_decide_eq_false hm; rw [← this] at h2; simp [optI] at h2
        go_wp2_with fail
        refine (HAT.out w3 HB3.out).mono ?_
        rintro e w4 ⟨rfl, hb4⟩
        have HB4 := hideIt (nx_trans HB3.out hb4)
        clear hb4
        obtain ⟨pv, hpv⟩ : ∃ pv, optI (ps.findIdx? (isNameP nm)) = pv := ⟨_, rfl⟩
        rw [hpv]
        have HPV := hideIt hpv
        clear hpv
        clear a0 a1 a2 a3 a4 a5 a6 a7 a8 a9 az r0 r1 r2 r3 r4 r5 r6 r7 r8 r9 rz
        obtain ⟨a0, a1, a2, a3, a4, a5, a6, a7, a8, a9, az⟩ := blk10 (blk_nx HW.out.2.1 HB4.out)
        obtain ⟨r0, r1, r2, r3, r4, r5, r6, r7, r8, r9, rz⟩ := blk10 (blk_nx HW.out.2.2.1 HB4.out)
        cases hp : ps.findIdx? (isNameP nm) with
        | none =>
          have HP := hideIt hp
          have hpl : decide (pv < 0) = true := by
            have := HPV.out; rw [hp] at this; rw [← this]; decide
          clear hp
          have HFW : Hid ((((((((((((w4.setCell ⟨w.heap.size + 1, 0, none⟩ (.int .i64 bud)).setCell ⟨w.heap.size + 1, 1, none⟩ (.slice po n1 pc)).setCell ⟨w.heap.size + 1, 2, none⟩ (.slice so n2 sc)).setCell ⟨w.heap.size + 1, 3, none⟩ (.slice wo n3 wc)).setCell ⟨w.heap.size + 1, 4, none⟩ (.slice qo n4 tc)).setCell ⟨w.heap.size + 1, 5, none⟩ (.bool bg)).setCell ⟨w.heap.size + 1, 6, none⟩ (.bool bk)).setCell ⟨w.heap.size + 1, 7, none⟩ (.int .i64 nx)).setCell ⟨w.heap.size + 1, 8, none⟩ (.int .i64 hb)).setCell ⟨w.heap.size + 1, 9, none⟩ (.slice ho n5 hc))).heap[w.heap.size + 1]? = some (bWd (.int .i64 bud) (.slice po n1 pc) (.slice so n2 sc) (.slice wo n3 wc) (.slice qo n4 tc) (.bool bg) (.bool bk) (.int .i64 nx) (.int .i64 hb) (.slice ho n5 hc))) := st10_heap (blk_nx HW.out.2.2.1 HB4.out) _ _ _ _ _ _ _ _ _ _
          have HFB : Hid (Below w.heap.size w (((((((((((w4.setCell ⟨w.heap.size + 1, 0, none⟩ (.int .i64 bud)).setCell ⟨w.heap.size + 1, 1, none⟩ (.slice po n1 pc)).setCell ⟨w.heap.size + 1, 2, none⟩ (.slice so n2 sc)).setCell ⟨w.heap.size + 1, 3, none⟩ (.slice wo n3 wc)).setCell ⟨w.heap.size + 1, 4, none⟩ (.slice qo n4 tc)).setCell ⟨w.heap.size + 1, 5, none⟩ (.bool bg)).setCell ⟨w.heap.size + 1, 6, none⟩ (.bool bk)).setCell ⟨w.heap.size + 1, 7, none⟩ (.int .i64 nx)).setCell ⟨w.heap.size + 1, 8, none⟩ (.int .i64 hb)).setCell ⟨w.heap.size + 1, 9, none⟩ (.slice ho n5 hc)))) := st10_bel (nx_trans HW.out.2.2.2 HB4.out) (by omega) _ _ _ _ _ _ _ _ _ _
          go_wp2_with fail
          obtain ⟨FW, hFW⟩ : ∃ FW, ((((((((((w4.setCell ⟨w.heap.size + 1, 0, none⟩ (.int .i64 bud)).setCell ⟨w.heap.size + 1, 1, none⟩ (.slice po n1 pc)).setCell ⟨w.heap.size + 1, 2, none⟩ (.slice so n2 sc)).setCell ⟨w.heap.size + 1, 3, none⟩ (.slice wo n3 wc)).setCell ⟨w.heap.size + 1, 4, none⟩ (.slice qo n4 tc)).setCell ⟨w.heap.size + 1, 5, none⟩ (.bool bg)).setCell ⟨w.heap.size + 1, 6, none⟩ (.bool bk)).setCell ⟨w.heap.size + 1, 7, none⟩ (.int .i64 nx)).setCell ⟨w.heap.size + 1, 8, none⟩ (.int .i64 hb)).setCell ⟨w.heap.size + 1, 9, none⟩ (.slice ho n5 hc)) = FW := ⟨_, rfl⟩
          rw [hFW] at HFW HFB ⊢
          obtain ⟨f0, f1, f2, f3, f4, f5, f6, f7, f8, f9, fz⟩ := blk10 HFW.out
          clear hFW
          refine bodyPost_ret (v := .tuple #[.agg #[.int .i64 bud, .slice po n1 pc, .slice so n2 sc, .slice wo n3 wc, .slice qo n4 tc, .bool bg, .bool bk, .int .i64 nx, .int .i64 hb, .slice ho n5 hc], .int .i64 0, .int .i64 12]) (by simp [results, Tryz.results35, go_sem, f0, f1, f2, f3, f4, f5, f6, f7, f8, f9]) rfl ?_
          unfold AskW
          have hp2 : ps.find? (isNameP nm) = none := (find_idx (isNameP nm) ps).2 HP.out
          rw [if_pos HC1.out, HL.out, HM.out, hp2, if_neg (by simp)]
          exact ⟨rfl, HFB.out⟩
        | some p =>
          obtain ⟨⟨x0, x1, x2, x3⟩, hxp, _⟩ := fidx_at hp
          have HFP : Hid (ps.find? (isNameP nm) = some ⟨x0, x1, x2, x3⟩) := by
            obtain ⟨x', h1, h2⟩ := (find_idx (isNameP nm) ps).1 p hp
            rw [hxp] at h1
            show _ = _
            rw [h2, Option.some.inj h1]
          have HXP := hideIt hxp
          have hpn : (p : Int) < (n1 : Int) := by
            have := (List.getElem?_eq_some_iff.1 hxp).1
            rw [HLN.out.1] at this
            omega
          have hpe : pv = (p : Int) := by have := HPV.out; rw [hp] at this; rw [← this]; rfl
          subst hpe
          have h0p : (0 : Int) ≤ (p : Int) := by omega
          have hnp : ¬ (p : Int) < 0 := by omega
          clear hp hxp
          exact absurd HFP.out (by rw [(find_idx (isNameP nm) ps).2 HPP.out.2.2.2]; simp)
  · rw [decide_eq_false hc1]
    have HC1 := hideIt hc1
    clear hc1
    exact absurd HPP.out.1 HC1.out
set_option maxRecDepth 20000 in
set_option maxHeartbeats 64000000 in
theorem ask_main (bud : Int) (po : Option Addr) (n1 pc : Nat) (so : Option Addr) (n2 sc : Nat) (wo : Option Addr) (n3 wc : Nat) (qo : Option Addr) (n4 tc : Nat) (bg bk : Bool) (nx hb : Int) (ho : Option Addr) (n5 hc : Nat) (ps : List Pl) (ss : List Srv) (ws : List Wtr) (ts : List Stp) (hs : List Pl) (w : World) (c : Int) (nm : ByteArray) (hr1 : RowAt w (.slice po n1 pc) n1 (flatP ps)) (hn1 : ps.length = n1) (hq1 : n1 ≤ 1099511627774) (hr2 : RowAt w (.slice so n2 sc) n2 (flatV ss)) (hn2 : ss.length = n2) (hq2 : n2 ≤ 1099511627774) (hr3 : RowAt w (.slice wo n3 wc) n3 (flatW ws)) (hn3 : ws.length = n3) (hq3 : n3 ≤ 1099511627774) (hr4 : RowAt w (.slice qo n4 tc) n4 (flatT ts)) (hn4 : ts.length = n4) (hq4 : n4 ≤ 1099511627774) (hr5 : RowAt w (.slice ho n5 hc) n5 (flatP hs)) (hn5 : hs.length = n5) (hq5 : n5 ≤ 1099511627774) (hsf : n2 + n3 ≤ 549755813888) (hx0 : 0 ≤ nx) (hx1 : nx + n3 + 1 ≤ 4611686018427387904) (hway : (1 ≤ c ∧ c ≤ 99) ∧ ss.findIdx? (isCliV c) = none ∧ ws.findIdx? (isCliW c) = none ∧ (ps.findIdx? (isNameP nm)).isSome = true) :
    Calls Tryz.prog 35 #[.agg #[.int .i64 bud, .slice po n1 pc, .slice so n2 sc, .slice wo n3 wc, .slice qo n4 tc, .bool bg, .bool bk, .int .i64 nx, .int .i64 hb, .slice ho n5 hc], .int .i64 c, .string nm] w fun e w' => AskW w w' (.agg #[.int .i64 bud, .slice po n1 pc, .slice so n2 sc, .slice wo n3 wc, .slice qo n4 tc, .bool bg, .bool bk, .int .i64 nx, .int .i64 hb, .slice ho n5 hc]) bud ps ss ws ts bg bk nx hb hs c nm e := by
  obtain ⟨W, hW⟩ : ∃ W, W = (w.alloc (bWd (.int .i64 bud) (.slice po n1 pc) (.slice so n2 sc) (.slice wo n3 wc) (.slice qo n4 tc) (.bool bg) (.bool bk) (.int .i64 nx) (.int .i64 hb) (.slice ho n5 hc))).alloc zW := ⟨_, rfl⟩
  have hbW : Below w.heap.size w W := by rw [hW]; exact nx_trans (nx_alloc _ _) (nx_alloc _ _)
  have HW : Hid (W = (w.alloc (bWd (.int .i64 bud) (.slice po n1 pc) (.slice so n2 sc) (.slice wo n3 wc) (.slice qo n4 tc) (.bool bg) (.bool bk) (.int .i64 nx) (.int .i64 hb) (.slice ho n5 hc))).alloc zW ∧ W.heap[w.heap.size]? = some (bWd (.int .i64 bud) (.slice po n1 pc) (.slice so n2 sc) (.slice wo n3 wc) (.slice qo n4 tc) (.bool bg) (.bool bk) (.int .i64 nx) (.int .i64 hb) (.slice ho n5 hc)) ∧ W.heap[w.heap.size + 1]? = some zW ∧ Below w.heap.size w W) := by
    refine ⟨hW, ?_, ?_, hbW⟩
    · rw [hW]; exact (heap_alloc_lt _ _ (by simp)).trans (heap_alloc_at _ _ rfl)
    · rw [hW]; exact heap_alloc_at _ _ (by simp)

  have HPP := hideIt hway
  clear hway
  have HHD := hideIt (rHolds bud po n1 pc so n2 sc wo n3 wc qo n4 tc bg bk nx hb ho n5 hc c ss W (hr2.nx hbW) hn2 (by unfold maxLen; omega))
  have HWT := hideIt (fun u (hb' : Below W.heap.size W u) => rWaits bud po n1 pc so n2 sc wo n3 wc qo n4 tc bg bk nx hb ho n5 hc c ws u ((hr3.nx hbW).nx hb') hn3 (by unfold maxLen; omega))
  have HAT := hideIt (fun u (hb' : Below W.heap.size W u) => rAt bud po n1 pc nm ps u ((hr1.nx hbW).nx hb') hn1 (by unfold maxLen; omega))
  have HCO := hideIt (fun u (hb' : Below W.heap.size W u) => copied_any bud po n1 pc so n2 sc wo n3 wc qo n4 tc bg bk nx hb ho n5 hc ps ss ws ts hs u ((hr1.nx hbW).nx hb') hn1 (by omega) ((hr2.nx hbW).nx hb') hn2 (by omega) ((hr3.nx hbW).nx hb') hn3 (by omega) ((hr4.nx hbW).nx hb') hn4 (by omega) ((hr5.nx hbW).nx hb') hn5 (by omega))
  have HLN : Hid (ps.length = n1 ∧ ss.length = n2 ∧ ws.length = n3 ∧ ts.length = n4 ∧ hs.length = n5) := ⟨hn1, hn2, hn3, hn4, hn5⟩
  clear hr1 hn1 hr2 hn2 hr3 hn3 hr4 hn4 hr5 hn5 hW hbW
  go_enter Tryz.func35, Tryz.ntmps35
  go_wp2_with fail
  rw [← HW.out.1]
  refine (btw_any c 1 99 W).mono ?_
  rintro e w1 ⟨rfl, h1⟩
  obtain rfl := h1.symm
  obtain ⟨a0, a1, a2, a3, a4, a5, a6, a7, a8, a9, az⟩ := blk10 (blk_nx HW.out.2.1 (Below.refl _ W))
  obtain ⟨r0, r1, r2, r3, r4, r5, r6, r7, r8, r9, rz⟩ := blk10 (blk_nx HW.out.2.2.1 (Below.refl _ W))
  by_cases hc1 : 1 ≤ c ∧ c ≤ 99
  · rw [decide_eq_true hc1]
    have HC1 := hideIt hc1
    clear hc1
    go_wp2_with fail
    refine HHD.out.mono ?_
    rintro e w2 ⟨rfl, hb2⟩
    have HB2 := hideIt hb2
    clear hb2
    clear a0 a1 a2 a3 a4 a5 a6 a7 a8 a9 az r0 r1 r2 r3 r4 r5 r6 r7 r8 r9 rz
    obtain ⟨a0, a1, a2, a3, a4, a5, a6, a7, a8, a9, az⟩ := blk10 (blk_nx HW.out.2.1 HB2.out)
    obtain ⟨r0, r1, r2, r3, r4, r5, r6, r7, r8, r9, rz⟩ := blk10 (blk_nx HW.out.2.2.1 HB2.out)
    obtain ⟨hv, hhv⟩ : ∃ hv, optI (ss.findIdx? (isCliV c)) = hv := ⟨_, rfl⟩
    rw [hhv]
    have HHV := hideIt hhv
    clear hhv
    go_wp2_with fail
    refine (HWT.out w2 HB2.out).mono ?_
    rintro e w3 ⟨rfl, hb3⟩
    have HB3 := hideIt (nx_trans HB2.out hb3)
    clear hb3
    obtain ⟨lv, hlv⟩ : ∃ lv, optI (ws.findIdx? (isCliW c)) = lv := ⟨_, rfl⟩
    rw [hlv]
    have HLV := hideIt hlv
    clear hlv
    clear a0 a1 a2 a3 a4 a5 a6 a7 a8 a9 az r0 r1 r2 r3 r4 r5 r6 r7 r8 r9 rz
    obtain ⟨a0, a1, a2, a3, a4, a5, a6, a7, a8, a9, az⟩ := blk10 (blk_nx HW.out.2.1 HB3.out)
    obtain ⟨r0, r1, r2, r3, r4, r5, r6, r7, r8, r9, rz⟩ := blk10 (blk_nx HW.out.2.2.1 HB3.out)
    cases hl : decide (0 ≤ hv) with
    | true =>
      have HL : Hid ((ss.findIdx? (isCliV c)).isSome = true) := by
        show _ = _
        cases hk : ss.findIdx? (isCliV c) with
        | none => have := HHV.out; rw [hk] at this; have h2 := of_decide_eq_true hl; rw [← this] at h2; simp [optI] at h2
        | some k => rfl
      exact absurd HL.out (by rw [HPP.out.2.1]; simp)
    | false =>
      have HL : Hid (ss.findIdx? (isCliV c) = none) := by
        show _ = _
        cases hk : ss.findIdx? (isCliV c) with
        | none => rfl
        | some k => have := HHV.out; rw [hk] at this; have h2 := of_decide_eq_false hl; rw [← this] at h2; simp [optI] at h2
      cases hm : decide (0 ≤ lv) with
      | true =>
        have HM : Hid ((ws.findIdx? (isCliW c)).isSome = true) := by
          show _ = _
          cases hk : ws.findIdx? (isCliW c) with
          | none => have := HLV.out; rw [hk] at this; have h2 := of_decide_eq_true hm; rw [← this] at h2; simp [optI] at h2
          | some k => rfl
        exact absurd HM.out (by rw [HPP.out.2.2.1]; simp)
      | false =>
        have HM : Hid (ws.findIdx? (isCliW c) = none) := by
          show _ = _
          cases hk : ws.findIdx? (isCliW c) with
          | none => rfl
          | some k => have := HLV.out; rw [hk] at this; have h2 := of_decide_eq_false hm; rw [← this] at h2; simp [optI] at h2
        go_wp2_with fail
        refine (HAT.out w3 HB3.out).mono ?_
        rintro e w4 ⟨rfl, hb4⟩
        have HB4 := hideIt (nx_trans HB3.out hb4)
        clear hb4
        obtain ⟨pv, hpv⟩ : ∃ pv, optI (ps.findIdx? (isNameP nm)) = pv := ⟨_, rfl⟩
        rw [hpv]
        have HPV := hideIt hpv
        clear hpv
        clear a0 a1 a2 a3 a4 a5 a6 a7 a8 a9 az r0 r1 r2 r3 r4 r5 r6 r7 r8 r9 rz
        obtain ⟨a0, a1, a2, a3, a4, a5, a6, a7, a8, a9, az⟩ := blk10 (blk_nx HW.out.2.1 HB4.out)
        obtain ⟨r0, r1, r2, r3, r4, r5, r6, r7, r8, r9, rz⟩ := blk10 (blk_nx HW.out.2.2.1 HB4.out)
        cases hp : ps.findIdx? (isNameP nm) with
        | none =>
          have HP := hideIt hp
          have hpl : decide (pv < 0) = true := by
            have := HPV.out; rw [hp] at this; rw [← this]; decide
          clear hp
          exact absurd HPP.out.2.2.2 (by rw [HP.out]; simp)
        | some p =>
          obtain ⟨⟨x0, x1, x2, x3⟩, hxp, _⟩ := fidx_at hp
          have HFP : Hid (ps.find? (isNameP nm) = some ⟨x0, x1, x2, x3⟩) := by
            obtain ⟨x', h1, h2⟩ := (find_idx (isNameP nm) ps).1 p hp
            rw [hxp] at h1
            show _ = _
            rw [h2, Option.some.inj h1]
          have HXP := hideIt hxp
          have hpn : (p : Int) < (n1 : Int) := by
            have := (List.getElem?_eq_some_iff.1 hxp).1
            rw [HLN.out.1] at this
            omega
          have hpe : pv = (p : Int) := by have := HPV.out; rw [hp] at this; rw [← this]; rfl
          subst hpe
          have h0p : (0 : Int) ≤ (p : Int) := by omega
          have hnp : ¬ (p : Int) < 0 := by omega
          clear hp hxp
          go_wp2_with fail
          refine (HCO.out w4 HB4.out).mono ?_
          rintro e w5 ⟨po5, pc5, so5, sc5, wo5, wc5, qo5, tc5, ho5, hc5, rfl, o0, o1, o2, o3, o4, hb5⟩
          have HB5 := hideIt (nx_trans HB4.out hb5)
          obtain ⟨U5, hU⟩ : ∃ U5, U5 = w5.alloc (bWd (.int .i64 bud) (.slice po5 n1 pc5) (.slice so5 n2 sc5) (.slice wo5 n3 wc5) (.slice qo5 n4 tc5) (.bool bg) (.bool bk) (.int .i64 nx) (.int .i64 hb) (.slice ho5 n5 hc5)) := ⟨_, rfl⟩
          have HU : Hid (U5 = w5.alloc (bWd (.int .i64 bud) (.slice po5 n1 pc5) (.slice so5 n2 sc5) (.slice wo5 n3 wc5) (.slice qo5 n4 tc5) (.bool bg) (.bool bk) (.int .i64 nx) (.int .i64 hb) (.slice ho5 n5 hc5)) ∧ Below W.heap.size W U5 ∧ U5.heap[w5.heap.size]? = some (bWd (.int .i64 bud) (.slice po5 n1 pc5) (.slice so5 n2 sc5) (.slice wo5 n3 wc5) (.slice qo5 n4 tc5) (.bool bg) (.bool bk) (.int .i64 nx) (.int .i64 hb) (.slice ho5 n5 hc5)) ∧ W.heap.size ≤ w4.heap.size ∧ w4.heap.size ≤ U5.heap.size) := ⟨hU, by rw [hU]; exact nx_trans HB5.out (nx_alloc _ _), by rw [hU]; exact heap_alloc_at _ _ rfl, HB4.out.size, by rw [hU]; exact Nat.le_trans hb5.size (by simp)⟩
          have HO5 : Hid (U5.ownsRow w4.heap.size 70 4 (.slice po5 n1 pc5) n1 (flatP ps) ∧ U5.ownsRow w4.heap.size 74 4 (.slice so5 n2 sc5) n2 (flatV ss) ∧ U5.ownsRow w4.heap.size 76 2 (.slice wo5 n3 wc5) n3 (flatW ws) ∧ U5.ownsRow w4.heap.size 72 3 (.slice qo5 n4 tc5) n4 (flatT ts) ∧ U5.ownsRow w4.heap.size 70 4 (.slice ho5 n5 hc5) n5 (flatP hs)) := by
            rw [hU]
            exact ⟨own_below o0 (nx_alloc _ _), own_below o1 (nx_alloc _ _), own_below o2 (nx_alloc _ _), own_below o3 (nx_alloc _ _), own_below o4 (nx_alloc _ _)⟩
          clear o0 o1 o2 o3 o4 hb5 hU
          clear a0 a1 a2 a3 a4 a5 a6 a7 a8 a9 az r0 r1 r2 r3 r4 r5 r6 r7 r8 r9 rz
          go_upto_region 12 with fail
          rw [← HU.out.1]
          obtain ⟨a0, a1, a2, a3, a4, a5, a6, a7, a8, a9, az⟩ := blk10 HU.out.2.2.1
          have hWU : W.heap.size ≤ U5.heap.size := HU.out.2.1.size
          have h4U := HU.out.2.2.2.2
          go_wp2_with (at_builtin; refine appendR 76 33 2 24 _ infr_W Tryz.underlying33 rfl (by decide) (by decide) rfl (.tmp 45) (.tmp 49) rfl w4.heap.size _ n3 (flatW ws) rfl (HO5.out.2.2.1.alloc _) U5.heap.size 0 1 1 [.int .i64 c, .string nm] rfl rfl (row_new U5 [.int .i64 c, .string nm] _ 1 rfl) (by intro u hu; simp at hu; rcases hu with rfl | rfl <;> rfl) (by decide) (by omega) (by simp; omega) ?next)
          case next =>
            intro g6 cap6 w6 hown6 hg6 hor
            have nso := own_ne10 HO5.out.2.2.1 HU.out.2.2.1 (by decide)
            have hgU : w5.heap.size < U5.heap.size := (Array.getElem?_eq_some_iff.1 HU.out.2.2.1).1
            have h63 : w6.heap[w5.heap.size]? = some (bWd (.int .i64 bud) (.slice po5 n1 pc5) (.slice so5 n2 sc5) (.slice wo5 n3 wc5) (.slice qo5 n4 tc5) (.bool bg) (.bool bk) (.int .i64 nx) (.int .i64 hb) (.slice ho5 n5 hc5)) := (hg6.block _ (by simp; omega) (fun e => nso e.symm)).trans ((heap_alloc_lt _ _ hgU).trans HU.out.2.2.1)
            obtain ⟨X6, hX6⟩ : ∃ X6, X6 = w6.setCell ⟨w5.heap.size, 3, none⟩ (.slice (some ⟨g6, 0, none⟩) (n3 + 1) cap6) := ⟨_, rfl⟩
            have HX6 : Hid (X6 = w6.setCell ⟨w5.heap.size, 3, none⟩ (.slice (some ⟨g6, 0, none⟩) (n3 + 1) cap6) ∧ Below W.heap.size W X6 ∧ X6.heap[w5.heap.size]? = some (bWd (.int .i64 bud) (.slice po5 n1 pc5) (.slice so5 n2 sc5) (.slice (some ⟨g6, 0, none⟩) (n3 + 1) cap6) (.slice qo5 n4 tc5) (.bool bg) (.bool bk) (.int .i64 nx) (.int .i64 hb) (.slice ho5 n5 hc5))) := by
              refine ⟨hX6, ?_, by rw [hX6]; exact set10_3 h63 _⟩
              rw [hX6]
              refine Below.setCell ?_ (by show W.heap.size ≤ w5.heap.size; exact HB5.out.size) _
              exact (HU.out.2.1.alloc HU.out.2.1.size _).grown hg6 (by simp; omega) (fun g hg => by have h1 := (HO5.out.2.2.1.lt _ hg).1; have := HU.out.2.2.2.1; omega)
            have hle : w.heap.size ≤ w4.heap.size := Nat.le_trans HW.out.2.2.2.size HB4.out.size
            have HO6 : Hid (X6.ownsRow w.heap.size 70 4 (.slice po5 n1 pc5) n1 (flatP ps) ∧ X6.ownsRow w.heap.size 74 4 (.slice so5 n2 sc5) n2 (flatV ss) ∧ X6.ownsRow w.heap.size 76 2 (.slice (some ⟨g6, 0, none⟩) (n3 + 1) cap6) (n3 + 1) (flatW (ws ++ [(⟨c, nm⟩ : Wtr)])) ∧ X6.ownsRow w.heap.size 72 3 (.slice qo5 n4 tc5) n4 (flatT ts) ∧ X6.ownsRow w.heap.size 70 4 (.slice ho5 n5 hc5) n5 (flatP hs)) := by
              rw [hX6]
              refine ⟨?_, ?_, ?_, ?_, ?_⟩
              · have q := own_grown (own_below HO5.out.1 (nx_alloc U5 _)) (HO5.out.2.2.1.alloc _) (by decide) hg6
                exact own_mono (own_set1 q (own_ne10 q h63 (by decide))) hle
              · have q := own_grown (own_below HO5.out.2.1 (nx_alloc U5 _)) (HO5.out.2.2.1.alloc _) (by decide) hg6
                exact own_mono (own_set1 q (own_ne10 q h63 (by decide))) hle
              · refine own_mono (own_set1 ?_ (own_ne10 hown6 h63 (by decide))) hle
                unfold flatW
                rw [List.flatMap_append]
                exact hown6
              · have q := own_grown (own_below HO5.out.2.2.2.1 (nx_alloc U5 _)) (HO5.out.2.2.1.alloc _) (by decide) hg6
                exact own_mono (own_set1 q (own_ne10 q h63 (by decide))) hle
              · have q := own_grown (own_below HO5.out.2.2.2.2 (nx_alloc U5 _)) (HO5.out.2.2.1.alloc _) (by decide) hg6
                exact own_mono (own_set1 q (own_ne10 q h63 (by decide))) hle
            obtain ⟨k0, k1, k2, k3, k4, k5, k6, k7, k8, k9, kz⟩ := blk10 h63
            have hwl : (ws ++ [(⟨c, nm⟩ : Wtr)]).length = n3 + 1 := by simp [HLN.out.2.2.1]
            have HSV := hideIt (served_any w.heap.size (n3 + 1) bud po5 n1 pc5 so5 n2 sc5 (some ⟨g6, 0, none⟩) (n3 + 1) cap6 qo5 n4 tc5 bg bk nx hb ho5 n5 hc5 ps ss (ws ++ [(⟨c, nm⟩ : Wtr)]) ts hs X6 (Nat.le_trans HW.out.2.2.2.size HX6.out.2.1.size) HO6.out.1 HLN.out.1 (by omega) HO6.out.2.1 HLN.out.2.1 (by omega) HO6.out.2.2.1 hwl (by omega) HO6.out.2.2.2.1 HLN.out.2.2.2.1 (by omega) HO6.out.2.2.2.2 HLN.out.2.2.2.2 (by omega) (by rw [hwl]; exact Nat.le_refl _) (by omega) hx0 (by omega))
            have hsl := served_len (n3 + 1) bud ps ss (ws ++ [(⟨c, nm⟩ : Wtr)]) nx
            obtain ⟨⟨z1, z2, z3⟩, hz⟩ : ∃ z, servedR bud ps (n3 + 1) ss (ws ++ [(⟨c, nm⟩ : Wtr)]) nx = z := ⟨_, rfl⟩
            rw [hz] at HSV hsl
            rw [HLN.out.2.1, hwl] at hsl
            simp only at HSV hsl
            have HZ : Hid ((servedR bud ps (ws.length + 1) ss (ws ++ [(⟨c, nm⟩ : Wtr)]) nx) = (z1, z2, z3)) := by show _ = _; rw [HLN.out.2.2.1]; exact hz
            obtain ⟨q2, hq2'⟩ : ∃ q, z1.length = q := ⟨_, rfl⟩
            obtain ⟨q3, hq3'⟩ : ∃ q, z2.length = q := ⟨_, rfl⟩
            rw [hq2', hq3'] at hsl
            have hq2l : q2 ≤ 1099511627774 := by omega
            have hq3l : q3 ≤ 1099511627774 := by omega
            have HQL : Hid (z1.length = q2 ∧ z2.length = q3) := ⟨hq2', hq3'⟩
            clear hown6 hg6 hor nso h63 hX6 a0 a1 a2 a3 a4 a5 a6 a7 a8 a9 az hwl hz hsl hq2' hq3'
            go_upto_region 13 with fail
            rw [← HX6.out.1]
            clear k0 k1 k2 k3 k4 k5 k6 k7 k8 k9 kz
            obtain ⟨a0, a1, a2, a3, a4, a5, a6, a7, a8, a9, az⟩ := blk10 HX6.out.2.2
            go_wp2_with fail
            refine HSV.out.mono ?_
            rintro e w9 ⟨po9, pc9, so9, sc9, wo9, wc9, qo9, tc9, ho9, hc9, rfl, o0, o1, o2, o3, o4, hb9⟩
            rw [HLN.out.1] at o0 ⊢
            rw [HQL.out.1] at o1 ⊢
            rw [HQL.out.2] at o2 ⊢
            rw [HLN.out.2.2.2.1] at o3 ⊢
            rw [HLN.out.2.2.2.2] at o4 ⊢
            have hb8 : w9.heap[w5.heap.size]? = some (bWd (.int .i64 bud) (.slice po5 n1 pc5) (.slice so5 n2 sc5) (.slice (some ⟨g6, 0, none⟩) (n3 + 1) cap6) (.slice qo5 n4 tc5) (.bool bg) (.bool bk) (.int .i64 nx) (.int .i64 hb) (.slice ho5 n5 hc5)) := blk_nx HX6.out.2.2 hb9
            obtain ⟨U9, hU9⟩ : ∃ U9, ((((((((((w9.setCell ⟨w5.heap.size, 0, none⟩ (.int .i64 bud)).setCell ⟨w5.heap.size, 1, none⟩ (.slice po9 n1 pc9)).setCell ⟨w5.heap.size, 2, none⟩ (.slice so9 q2 sc9)).setCell ⟨w5.heap.size, 3, none⟩ (.slice wo9 q3 wc9)).setCell ⟨w5.heap.size, 4, none⟩ (.slice qo9 n4 tc9)).setCell ⟨w5.heap.size, 5, none⟩ (.bool bg)).setCell ⟨w5.heap.size, 6, none⟩ (.bool bk)).setCell ⟨w5.heap.size, 7, none⟩ (.int .i64 z3)).setCell ⟨w5.heap.size, 8, none⟩ (.int .i64 hb)).setCell ⟨w5.heap.size, 9, none⟩ (.slice ho9 n5 hc9)) = U9 := ⟨_, rfl⟩
            have HB9 := hideIt (nx_trans HX6.out.2.1 hb9)
            have HU9 : Hid (((((((((((w9.setCell ⟨w5.heap.size, 0, none⟩ (.int .i64 bud)).setCell ⟨w5.heap.size, 1, none⟩ (.slice po9 n1 pc9)).setCell ⟨w5.heap.size, 2, none⟩ (.slice so9 q2 sc9)).setCell ⟨w5.heap.size, 3, none⟩ (.slice wo9 q3 wc9)).setCell ⟨w5.heap.size, 4, none⟩ (.slice qo9 n4 tc9)).setCell ⟨w5.heap.size, 5, none⟩ (.bool bg)).setCell ⟨w5.heap.size, 6, none⟩ (.bool bk)).setCell ⟨w5.heap.size, 7, none⟩ (.int .i64 z3)).setCell ⟨w5.heap.size, 8, none⟩ (.int .i64 hb)).setCell ⟨w5.heap.size, 9, none⟩ (.slice ho9 n5 hc9)) = U9 ∧ U9.heap[w5.heap.size]? = some (bWd (.int .i64 bud) (.slice po9 n1 pc9) (.slice so9 q2 sc9) (.slice wo9 q3 wc9) (.slice qo9 n4 tc9) (.bool bg) (.bool bk) (.int .i64 z3) (.int .i64 hb) (.slice ho9 n5 hc9)) ∧ Below W.heap.size W U9) := ⟨hU9, by rw [← hU9]; exact st10_heap hb8 _ _ _ _ _ _ _ _ _ _, by rw [← hU9]; exact st10_bel HB9.out HB5.out.size _ _ _ _ _ _ _ _ _ _⟩
            have HO9 : Hid (U9.ownsRow w.heap.size 70 4 (.slice po9 n1 pc9) n1 (flatP ps) ∧ U9.ownsRow w.heap.size 74 4 (.slice so9 q2 sc9) q2 (flatV z1) ∧ U9.ownsRow w.heap.size 76 2 (.slice wo9 q3 wc9) q3 (flatW z2) ∧ U9.ownsRow w.heap.size 72 3 (.slice qo9 n4 tc9) n4 (flatT ts) ∧ U9.ownsRow w.heap.size 70 4 (.slice ho9 n5 hc9) n5 (flatP hs)) := by
              rw [← hU9]
              exact ⟨own_st10 o0 (own_ne10 o0 hb8 (by decide)) _ _ _ _ _ _ _ _ _ _, own_st10 o1 (own_ne10 o1 hb8 (by decide)) _ _ _ _ _ _ _ _ _ _, own_st10 o2 (own_ne10 o2 hb8 (by decide)) _ _ _ _ _ _ _ _ _ _, own_st10 o3 (own_ne10 o3 hb8 (by decide)) _ _ _ _ _ _ _ _ _ _, own_st10 o4 (own_ne10 o4 hb8 (by decide)) _ _ _ _ _ _ _ _ _ _⟩
            have HH9 := hideIt (rHolds bud po9 n1 pc9 so9 q2 sc9 wo9 q3 wc9 qo9 n4 tc9 bg bk z3 hb ho9 n5 hc9 c z1 U9 (own_row HO9.out.2.1) HQL.out.1 (by unfold maxLen; omega))
            clear o0 o1 o2 o3 o4 hb9 hU9 a0 a1 a2 a3 a4 a5 a6 a7 a8 a9 az
            obtain ⟨a0, a1, a2, a3, a4, a5, a6, a7, a8, a9, az⟩ := blk10 hb8
            clear hb8 HSV
            go_upto_region 14 with fail
            rw [HU9.out.1]
            clear a0 a1 a2 a3 a4 a5 a6 a7 a8 a9 az
            obtain ⟨a0, a1, a2, a3, a4, a5, a6, a7, a8, a9, az⟩ := blk10 HU9.out.2.1
            go_wp2_with fail
            refine HH9.out.mono ?_
            rintro e wa ⟨rfl, hba⟩
            have HBA := hideIt (nx_trans HU9.out.2.2 hba)
            have HXA := hideIt (blk_nx HU9.out.2.1 hba)
            have HOA : Hid (wa.ownsRow w.heap.size 70 4 (.slice po9 n1 pc9) n1 (flatP ps) ∧ wa.ownsRow w.heap.size 74 4 (.slice so9 q2 sc9) q2 (flatV z1) ∧ wa.ownsRow w.heap.size 76 2 (.slice wo9 q3 wc9) q3 (flatW z2) ∧ wa.ownsRow w.heap.size 72 3 (.slice qo9 n4 tc9) n4 (flatT ts) ∧ wa.ownsRow w.heap.size 70 4 (.slice ho9 n5 hc9) n5 (flatP hs)) := ⟨own_below HO9.out.1 hba, own_below HO9.out.2.1 hba, own_below HO9.out.2.2.1 hba, own_below HO9.out.2.2.2.1 hba, own_below HO9.out.2.2.2.2 hba⟩
            clear hba a0 a1 a2 a3 a4 a5 a6 a7 a8 a9 az HH9
            obtain ⟨a0, a1, a2, a3, a4, a5, a6, a7, a8, a9, az⟩ := blk10 HXA.out
            obtain ⟨r0, r1, r2, r3, r4, r5, r6, r7, r8, r9, rz⟩ := blk10 (blk_nx HW.out.2.2.1 HBA.out)
            cases hh : z1.findIdx? (isCliV c) with
            | some h =>
              obtain ⟨⟨s0, s1, s2, s3⟩, hsp, _⟩ := fidx_at hh
              have HFS : Hid (z1.find? (isCliV c) = some ⟨s0, s1, s2, s3⟩) := by
                obtain ⟨x', h1, h2⟩ := (find_idx (isCliV c) z1).1 h hh
                rw [hsp] at h1
                show _ = _
                rw [h2, Option.some.inj h1]
              obtain ⟨gs, gf, hgo, hgs, t0, t1, t2, t3⟩ := sv_at (own_row HOA.out.2.1) hsp
              subst hgo
              have hhn : (h : Int) < (q2 : Int) := by
                have := (List.getElem?_eq_some_iff.1 hsp).1
                rw [HQL.out.1] at this
                omega
              have h0h : (0 : Int) ≤ (h : Int) := by omega
              have hnh : ¬ (h : Int) < 0 := by omega
              simp only at t0 t1 t2 t3
              have hgw : gs ≠ w.heap.size + 1 := fun e => own_ne10 HOA.out.2.1 (blk_nx HW.out.2.2.1 HBA.out) (by decide) (by rw [← e]; rfl)
              have hg5 : w5.heap.size ≠ w.heap.size + 1 := by have h1 := HB5.out.size; have h2 := (Array.getElem?_eq_some_iff.1 HW.out.2.2.1).1; omega
              clear hh hsp
              unfold optI
              go_upto_region 16 with fail
              have HFW : Hid ((((((((((((wa.setCell ⟨w.heap.size + 1, 0, none⟩ (.int .i64 bud)).setCell ⟨w.heap.size + 1, 1, none⟩ (.slice po9 n1 pc9)).setCell ⟨w.heap.size + 1, 2, none⟩ (.slice (some ⟨gs, gf, none⟩) q2 sc9)).setCell ⟨w.heap.size + 1, 3, none⟩ (.slice wo9 q3 wc9)).setCell ⟨w.heap.size + 1, 4, none⟩ (.slice qo9 n4 tc9)).setCell ⟨w.heap.size + 1, 5, none⟩ (.bool bg)).setCell ⟨w.heap.size + 1, 6, none⟩ (.bool bk)).setCell ⟨w.heap.size + 1, 7, none⟩ (.int .i64 z3)).setCell ⟨w.heap.size + 1, 8, none⟩ (.int .i64 hb)).setCell ⟨w.heap.size + 1, 9, none⟩ (.slice ho9 n5 hc9))).heap[w.heap.size + 1]? = some (bWd (.int .i64 bud) (.slice po9 n1 pc9) (.slice (some ⟨gs, gf, none⟩) q2 sc9) (.slice wo9 q3 wc9) (.slice qo9 n4 tc9) (.bool bg) (.bool bk) (.int .i64 z3) (.int .i64 hb) (.slice ho9 n5 hc9))) := st10_heap (blk_nx HW.out.2.2.1 HBA.out) _ _ _ _ _ _ _ _ _ _
              have HFB : Hid (Below w.heap.size w (((((((((((wa.setCell ⟨w.heap.size + 1, 0, none⟩ (.int .i64 bud)).setCell ⟨w.heap.size + 1, 1, none⟩ (.slice po9 n1 pc9)).setCell ⟨w.heap.size + 1, 2, none⟩ (.slice (some ⟨gs, gf, none⟩) q2 sc9)).setCell ⟨w.heap.size + 1, 3, none⟩ (.slice wo9 q3 wc9)).setCell ⟨w.heap.size + 1, 4, none⟩ (.slice qo9 n4 tc9)).setCell ⟨w.heap.size + 1, 5, none⟩ (.bool bg)).setCell ⟨w.heap.size + 1, 6, none⟩ (.bool bk)).setCell ⟨w.heap.size + 1, 7, none⟩ (.int .i64 z3)).setCell ⟨w.heap.size + 1, 8, none⟩ (.int .i64 hb)).setCell ⟨w.heap.size + 1, 9, none⟩ (.slice ho9 n5 hc9)))) := st10_bel (nx_trans HW.out.2.2.2 HBA.out) (by omega) _ _ _ _ _ _ _ _ _ _
              have HFO : Hid ((((((((((((wa.setCell ⟨w.heap.size + 1, 0, none⟩ (.int .i64 bud)).setCell ⟨w.heap.size + 1, 1, none⟩ (.slice po9 n1 pc9)).setCell ⟨w.heap.size + 1, 2, none⟩ (.slice (some ⟨gs, gf, none⟩) q2 sc9)).setCell ⟨w.heap.size + 1, 3, none⟩ (.slice wo9 q3 wc9)).setCell ⟨w.heap.size + 1, 4, none⟩ (.slice qo9 n4 tc9)).setCell ⟨w.heap.size + 1, 5, none⟩ (.bool bg)).setCell ⟨w.heap.size + 1, 6, none⟩ (.bool bk)).setCell ⟨w.heap.size + 1, 7, none⟩ (.int .i64 z3)).setCell ⟨w.heap.size + 1, 8, none⟩ (.int .i64 hb)).setCell ⟨w.heap.size + 1, 9, none⟩ (.slice ho9 n5 hc9))).ownsRow w.heap.size 70 4 (.slice po9 n1 pc9) n1 (flatP ps) ∧ (((((((((((wa.setCell ⟨w.heap.size + 1, 0, none⟩ (.int .i64 bud)).setCell ⟨w.heap.size + 1, 1, none⟩ (.slice po9 n1 pc9)).setCell ⟨w.heap.size + 1, 2, none⟩ (.slice (some ⟨gs, gf, none⟩) q2 sc9)).setCell ⟨w.heap.size + 1, 3, none⟩ (.slice wo9 q3 wc9)).setCell ⟨w.heap.size + 1, 4, none⟩ (.slice qo9 n4 tc9)).setCell ⟨w.heap.size + 1, 5, none⟩ (.bool bg)).setCell ⟨w.heap.size + 1, 6, none⟩ (.bool bk)).setCell ⟨w.heap.size + 1, 7, none⟩ (.int .i64 z3)).setCell ⟨w.heap.size + 1, 8, none⟩ (.int .i64 hb)).setCell ⟨w.heap.size + 1, 9, none⟩ (.slice ho9 n5 hc9))).ownsRow w.heap.size 74 4 (.slice (some ⟨gs, gf, none⟩) q2 sc9) q2 (flatV z1) ∧ (((((((((((wa.setCell ⟨w.heap.size + 1, 0, none⟩ (.int .i64 bud)).setCell ⟨w.heap.size + 1, 1, none⟩ (.slice po9 n1 pc9)).setCell ⟨w.heap.size + 1, 2, none⟩ (.slice (some ⟨gs, gf, none⟩) q2 sc9)).setCell ⟨w.heap.size + 1, 3, none⟩ (.slice wo9 q3 wc9)).setCell ⟨w.heap.size + 1, 4, none⟩ (.slice qo9 n4 tc9)).setCell ⟨w.heap.size + 1, 5, none⟩ (.bool bg)).setCell ⟨w.heap.size + 1, 6, none⟩ (.bool bk)).setCell ⟨w.heap.size + 1, 7, none⟩ (.int .i64 z3)).setCell ⟨w.heap.size + 1, 8, none⟩ (.int .i64 hb)).setCell ⟨w.heap.size + 1, 9, none⟩ (.slice ho9 n5 hc9))).ownsRow w.heap.size 76 2 (.slice wo9 q3 wc9) q3 (flatW z2) ∧ (((((((((((wa.setCell ⟨w.heap.size + 1, 0, none⟩ (.int .i64 bud)).setCell ⟨w.heap.size + 1, 1, none⟩ (.slice po9 n1 pc9)).setCell ⟨w.heap.size + 1, 2, none⟩ (.slice (some ⟨gs, gf, none⟩) q2 sc9)).setCell ⟨w.heap.size + 1, 3, none⟩ (.slice wo9 q3 wc9)).setCell ⟨w.heap.size + 1, 4, none⟩ (.slice qo9 n4 tc9)).setCell ⟨w.heap.size + 1, 5, none⟩ (.bool bg)).setCell ⟨w.heap.size + 1, 6, none⟩ (.bool bk)).setCell ⟨w.heap.size + 1, 7, none⟩ (.int .i64 z3)).setCell ⟨w.heap.size + 1, 8, none⟩ (.int .i64 hb)).setCell ⟨w.heap.size + 1, 9, none⟩ (.slice ho9 n5 hc9))).ownsRow w.heap.size 72 3 (.slice qo9 n4 tc9) n4 (flatT ts) ∧ (((((((((((wa.setCell ⟨w.heap.size + 1, 0, none⟩ (.int .i64 bud)).setCell ⟨w.heap.size + 1, 1, none⟩ (.slice po9 n1 pc9)).setCell ⟨w.heap.size + 1, 2, none⟩ (.slice (some ⟨gs, gf, none⟩) q2 sc9)).setCell ⟨w.heap.size + 1, 3, none⟩ (.slice wo9 q3 wc9)).setCell ⟨w.heap.size + 1, 4, none⟩ (.slice qo9 n4 tc9)).setCell ⟨w.heap.size + 1, 5, none⟩ (.bool bg)).setCell ⟨w.heap.size + 1, 6, none⟩ (.bool bk)).setCell ⟨w.heap.size + 1, 7, none⟩ (.int .i64 z3)).setCell ⟨w.heap.size + 1, 8, none⟩ (.int .i64 hb)).setCell ⟨w.heap.size + 1, 9, none⟩ (.slice ho9 n5 hc9))).ownsRow w.heap.size 70 4 (.slice ho9 n5 hc9) n5 (flatP hs)) := ⟨own_st10 HOA.out.1 (own_ne10 HOA.out.1 (blk_nx HW.out.2.2.1 HBA.out) (by decide)) _ _ _ _ _ _ _ _ _ _, own_st10 HOA.out.2.1 (own_ne10 HOA.out.2.1 (blk_nx HW.out.2.2.1 HBA.out) (by decide)) _ _ _ _ _ _ _ _ _ _, own_st10 HOA.out.2.2.1 (own_ne10 HOA.out.2.2.1 (blk_nx HW.out.2.2.1 HBA.out) (by decide)) _ _ _ _ _ _ _ _ _ _, own_st10 HOA.out.2.2.2.1 (own_ne10 HOA.out.2.2.2.1 (blk_nx HW.out.2.2.1 HBA.out) (by decide)) _ _ _ _ _ _ _ _ _ _, own_st10 HOA.out.2.2.2.2 (own_ne10 HOA.out.2.2.2.2 (blk_nx HW.out.2.2.1 HBA.out) (by decide)) _ _ _ _ _ _ _ _ _ _⟩
              go_region
              go_wp2_with fail
              obtain ⟨V, hV⟩ : ∃ V, ((((((((((wa.setCell ⟨w.heap.size + 1, 0, none⟩ (.int .i64 bud)).setCell ⟨w.heap.size + 1, 1, none⟩ (.slice po9 n1 pc9)).setCell ⟨w.heap.size + 1, 2, none⟩ (.slice (some ⟨gs, gf, none⟩) q2 sc9)).setCell ⟨w.heap.size + 1, 3, none⟩ (.slice wo9 q3 wc9)).setCell ⟨w.heap.size + 1, 4, none⟩ (.slice qo9 n4 tc9)).setCell ⟨w.heap.size + 1, 5, none⟩ (.bool bg)).setCell ⟨w.heap.size + 1, 6, none⟩ (.bool bk)).setCell ⟨w.heap.size + 1, 7, none⟩ (.int .i64 z3)).setCell ⟨w.heap.size + 1, 8, none⟩ (.int .i64 hb)).setCell ⟨w.heap.size + 1, 9, none⟩ (.slice ho9 n5 hc9)) = V := ⟨_, rfl⟩
              rw [hV] at HFW HFB HFO ⊢
              clear hV
              obtain ⟨FW, hFW⟩ : ∃ FW, V.drew = FW := ⟨_, rfl⟩
              have HFW2 : Hid (FW.heap[w.heap.size + 1]? = some (bWd (.int .i64 bud) (.slice po9 n1 pc9) (.slice (some ⟨gs, gf, none⟩) q2 sc9) (.slice wo9 q3 wc9) (.slice qo9 n4 tc9) (.bool bg) (.bool bk) (.int .i64 z3) (.int .i64 hb) (.slice ho9 n5 hc9))) := by rw [← hFW]; exact HFW.out
              have HFB2 : Hid (Below w.heap.size w FW) := by rw [← hFW]; exact HFB.out.drew
              have HFO2 : Hid (FW.ownsRow w.heap.size 70 4 (.slice po9 n1 pc9) n1 (flatP ps) ∧ FW.ownsRow w.heap.size 74 4 (.slice (some ⟨gs, gf, none⟩) q2 sc9) q2 (flatV z1) ∧ FW.ownsRow w.heap.size 76 2 (.slice wo9 q3 wc9) q3 (flatW z2) ∧ FW.ownsRow w.heap.size 72 3 (.slice qo9 n4 tc9) n4 (flatT ts) ∧ FW.ownsRow w.heap.size 70 4 (.slice ho9 n5 hc9) n5 (flatP hs)) := by
                rw [← hFW]
                exact ⟨HFO.out.1.drew, HFO.out.2.1.drew, HFO.out.2.2.1.drew, HFO.out.2.2.2.1.drew, HFO.out.2.2.2.2.drew⟩
              rw [hFW]
              obtain ⟨f0, f1, f2, f3, f4, f5, f6, f7, f8, f9, fz⟩ := blk10 HFW2.out
              clear hFW HFW HFB HFO
              refine bodyPost_ret (v := .tuple #[.agg #[.int .i64 bud, .slice po9 n1 pc9, .slice (some ⟨gs, gf, none⟩) q2 sc9, .slice wo9 q3 wc9, .slice qo9 n4 tc9, .bool bg, .bool bk, .int .i64 z3, .int .i64 hb, .slice ho9 n5 hc9], .int .i64 s0, .int .i64 0]) (by simp [results, Tryz.results35, go_sem, f0, f1, f2, f3, f4, f5, f6, f7, f8, f9]) rfl ?_
              unfold AskW
              have hZ1 : (servedR bud ps (ws.length + 1) ss (ws ++ [(⟨c, nm⟩ : Wtr)]) nx).1 = z1 := by rw [HZ.out]
              rw [if_pos HC1.out, HL.out, HM.out, HFP.out, if_neg (by simp)]
              simp only
              rw [hZ1, HFS.out]
              simp only
              rw [HZ.out]
              refine ⟨_, rfl, po9, pc9, (some ⟨gs, gf, none⟩), sc9, wo9, wc9, qo9, tc9, ho9, hc9, ?_, ?_, ?_, ?_, ?_, ?_, HFB2.out⟩
              · rw [HLN.out.1, HQL.out.1, HQL.out.2, HLN.out.2.2.2.1, HLN.out.2.2.2.2]
              · rw [HLN.out.1]; exact HFO2.out.1
              · rw [HQL.out.1]; exact HFO2.out.2.1
              · rw [HQL.out.2]; exact HFO2.out.2.2.1
              · rw [HLN.out.2.2.2.1]; exact HFO2.out.2.2.2.1
              · rw [HLN.out.2.2.2.2]; exact HFO2.out.2.2.2.2

            | none =>
              have HFN : Hid (z1.find? (isCliV c) = none) := (find_idx (isCliV c) z1).2 hh
              clear hh
              unfold optI
              have HWG := hideIt (rWaiting bud po9 n1 pc9 so9 q2 sc9 wo9 q3 wc9 qo9 n4 tc9 bg bk z3 hb ho9 n5 hc9 nm z2 wa (own_row HOA.out.2.2.1) HQL.out.2 (by unfold maxLen; omega))
              go_wp2_with fail
              refine HWG.out.mono ?_
              rintro e wb ⟨rfl, hbb⟩
              have HBB := hideIt (nx_trans HBA.out hbb)
              have HXB := hideIt (blk_nx HXA.out hbb)
              have HOL : Hid (wb.ownsRow w.heap.size 70 4 (.slice po9 n1 pc9) n1 (flatP ps) ∧ wb.ownsRow w.heap.size 74 4 (.slice so9 q2 sc9) q2 (flatV z1) ∧ wb.ownsRow w.heap.size 76 2 (.slice wo9 q3 wc9) q3 (flatW z2) ∧ wb.ownsRow w.heap.size 72 3 (.slice qo9 n4 tc9) n4 (flatT ts) ∧ wb.ownsRow w.heap.size 70 4 (.slice ho9 n5 hc9) n5 (flatP hs)) := ⟨own_below HOA.out.1 hbb, own_below HOA.out.2.1 hbb, own_below HOA.out.2.2.1 hbb, own_below HOA.out.2.2.2.1 hbb, own_below HOA.out.2.2.2.2 hbb⟩
              clear hbb HWG
              clear a0 a1 a2 a3 a4 a5 a6 a7 a8 a9 az r0 r1 r2 r3 r4 r5 r6 r7 r8 r9 rz
              obtain ⟨a0, a1, a2, a3, a4, a5, a6, a7, a8, a9, az⟩ := blk10 HXB.out
              obtain ⟨b0, b1, b2, b3, b4, b5, b6, b7, b8, b9, bz⟩ := blk10 (blk_nx HW.out.2.1 HBB.out)
              obtain ⟨r0, r1, r2, r3, r4, r5, r6, r7, r8, r9, rz⟩ := blk10 (blk_nx HW.out.2.2.1 HBB.out)
              obtain ⟨gs, gf, hgo, hgs, t0, t1, t2, t3⟩ := pool_at (own_row HOL.out.1) HXP.out
              subst hgo
              simp only at t0 t1 t2 t3
              obtain ⟨cn, hcn⟩ : ∃ cn, cntG (isPoolW nm) z2 = cn := ⟨_, rfl⟩
              have HCN : Hid (cntG (isPoolW nm) (servedR bud ps (ws.length + 1) ss (ws ++ [(⟨c, nm⟩ : Wtr)]) nx).2.1 = cn) := by show _ = _; rw [HZ.out]; exact hcn
              have hcl : cn ≤ q3 := by rw [← hcn, ← HQL.out.2]; exact List.length_filter_le _ _
              rw [hcn]
              clear hcn
              cases hcd : decide (x2 < (cn : Int)) with
              | true =>
                have HCD := hideIt (of_decide_eq_true hcd)
                have HFW : Hid ((((((((((((wb.setCell ⟨w.heap.size + 1, 0, none⟩ (.int .i64 bud)).setCell ⟨w.heap.size + 1, 1, none⟩ (.slice po n1 pc)).setCell ⟨w.heap.size + 1, 2, none⟩ (.slice so n2 sc)).setCell ⟨w.heap.size + 1, 3, none⟩ (.slice wo n3 wc)).setCell ⟨w.heap.size + 1, 4, none⟩ (.slice qo n4 tc)).setCell ⟨w.heap.size + 1, 5, none⟩ (.bool bg)).setCell ⟨w.heap.size + 1, 6, none⟩ (.bool bk)).setCell ⟨w.heap.size + 1, 7, none⟩ (.int .i64 nx)).setCell ⟨w.heap.size + 1, 8, none⟩ (.int .i64 hb)).setCell ⟨w.heap.size + 1, 9, none⟩ (.slice ho n5 hc))).heap[w.heap.size + 1]? = some (bWd (.int .i64 bud) (.slice po n1 pc) (.slice so n2 sc) (.slice wo n3 wc) (.slice qo n4 tc) (.bool bg) (.bool bk) (.int .i64 nx) (.int .i64 hb) (.slice ho n5 hc))) := st10_heap (blk_nx HW.out.2.2.1 HBB.out) _ _ _ _ _ _ _ _ _ _
                have HFB : Hid (Below w.heap.size w (((((((((((wb.setCell ⟨w.heap.size + 1, 0, none⟩ (.int .i64 bud)).setCell ⟨w.heap.size + 1, 1, none⟩ (.slice po n1 pc)).setCell ⟨w.heap.size + 1, 2, none⟩ (.slice so n2 sc)).setCell ⟨w.heap.size + 1, 3, none⟩ (.slice wo n3 wc)).setCell ⟨w.heap.size + 1, 4, none⟩ (.slice qo n4 tc)).setCell ⟨w.heap.size + 1, 5, none⟩ (.bool bg)).setCell ⟨w.heap.size + 1, 6, none⟩ (.bool bk)).setCell ⟨w.heap.size + 1, 7, none⟩ (.int .i64 nx)).setCell ⟨w.heap.size + 1, 8, none⟩ (.int .i64 hb)).setCell ⟨w.heap.size + 1, 9, none⟩ (.slice ho n5 hc)))) := st10_bel (nx_trans HW.out.2.2.2 HBB.out) (by omega) _ _ _ _ _ _ _ _ _ _
                go_wp2_with fail
                obtain ⟨FW, hFW⟩ : ∃ FW, ((((((((((wb.setCell ⟨w.heap.size + 1, 0, none⟩ (.int .i64 bud)).setCell ⟨w.heap.size + 1, 1, none⟩ (.slice po n1 pc)).setCell ⟨w.heap.size + 1, 2, none⟩ (.slice so n2 sc)).setCell ⟨w.heap.size + 1, 3, none⟩ (.slice wo n3 wc)).setCell ⟨w.heap.size + 1, 4, none⟩ (.slice qo n4 tc)).setCell ⟨w.heap.size + 1, 5, none⟩ (.bool bg)).setCell ⟨w.heap.size + 1, 6, none⟩ (.bool bk)).setCell ⟨w.heap.size + 1, 7, none⟩ (.int .i64 nx)).setCell ⟨w.heap.size + 1, 8, none⟩ (.int .i64 hb)).setCell ⟨w.heap.size + 1, 9, none⟩ (.slice ho n5 hc)) = FW := ⟨_, rfl⟩
                rw [hFW] at HFW HFB ⊢
                obtain ⟨f0, f1, f2, f3, f4, f5, f6, f7, f8, f9, fz⟩ := blk10 HFW.out
                clear hFW
                refine bodyPost_ret (v := .tuple #[.agg #[.int .i64 bud, .slice po n1 pc, .slice so n2 sc, .slice wo n3 wc, .slice qo n4 tc, .bool bg, .bool bk, .int .i64 nx, .int .i64 hb, .slice ho n5 hc], .int .i64 0, .int .i64 13]) (by simp [results, Tryz.results35, go_sem, f0, f1, f2, f3, f4, f5, f6, f7, f8, f9]) rfl ?_
                unfold AskW
                have hZ1 : (servedR bud ps (ws.length + 1) ss (ws ++ [(⟨c, nm⟩ : Wtr)]) nx).1 = z1 := by rw [HZ.out]
                rw [if_pos HC1.out, HL.out, HM.out, HFP.out, if_neg (by simp)]
                simp only
                rw [hZ1, HFN.out]
                simp only
                rw [HCN.out, if_pos HCD.out]
                exact ⟨by first | rfl | trivial, HFB.out⟩
              | false =>
                have HCD := hideIt (of_decide_eq_false hcd)
                have HFO : Hid ((((((((((((wb.setCell ⟨w.heap.size + 1, 0, none⟩ (.int .i64 bud)).setCell ⟨w.heap.size + 1, 1, none⟩ (.slice (some ⟨gs, gf, none⟩) n1 pc9)).setCell ⟨w.heap.size + 1, 2, none⟩ (.slice so9 q2 sc9)).setCell ⟨w.heap.size + 1, 3, none⟩ (.slice wo9 q3 wc9)).setCell ⟨w.heap.size + 1, 4, none⟩ (.slice qo9 n4 tc9)).setCell ⟨w.heap.size + 1, 5, none⟩ (.bool bg)).setCell ⟨w.heap.size + 1, 6, none⟩ (.bool bk)).setCell ⟨w.heap.size + 1, 7, none⟩ (.int .i64 z3)).setCell ⟨w.heap.size + 1, 8, none⟩ (.int .i64 hb)).setCell ⟨w.heap.size + 1, 9, none⟩ (.slice ho9 n5 hc9))).ownsRow w.heap.size 70 4 (.slice (some ⟨gs, gf, none⟩) n1 pc9) n1 (flatP ps) ∧ (((((((((((wb.setCell ⟨w.heap.size + 1, 0, none⟩ (.int .i64 bud)).setCell ⟨w.heap.size + 1, 1, none⟩ (.slice (some ⟨gs, gf, none⟩) n1 pc9)).setCell ⟨w.heap.size + 1, 2, none⟩ (.slice so9 q2 sc9)).setCell ⟨w.heap.size + 1, 3, none⟩ (.slice wo9 q3 wc9)).setCell ⟨w.heap.size + 1, 4, none⟩ (.slice qo9 n4 tc9)).setCell ⟨w.heap.size + 1, 5, none⟩ (.bool bg)).setCell ⟨w.heap.size + 1, 6, none⟩ (.bool bk)).setCell ⟨w.heap.size + 1, 7, none⟩ (.int .i64 z3)).setCell ⟨w.heap.size + 1, 8, none⟩ (.int .i64 hb)).setCell ⟨w.heap.size + 1, 9, none⟩ (.slice ho9 n5 hc9))).ownsRow w.heap.size 74 4 (.slice so9 q2 sc9) q2 (flatV z1) ∧ (((((((((((wb.setCell ⟨w.heap.size + 1, 0, none⟩ (.int .i64 bud)).setCell ⟨w.heap.size + 1, 1, none⟩ (.slice (some ⟨gs, gf, none⟩) n1 pc9)).setCell ⟨w.heap.size + 1, 2, none⟩ (.slice so9 q2 sc9)).setCell ⟨w.heap.size + 1, 3, none⟩ (.slice wo9 q3 wc9)).setCell ⟨w.heap.size + 1, 4, none⟩ (.slice qo9 n4 tc9)).setCell ⟨w.heap.size + 1, 5, none⟩ (.bool bg)).setCell ⟨w.heap.size + 1, 6, none⟩ (.bool bk)).setCell ⟨w.heap.size + 1, 7, none⟩ (.int .i64 z3)).setCell ⟨w.heap.size + 1, 8, none⟩ (.int .i64 hb)).setCell ⟨w.heap.size + 1, 9, none⟩ (.slice ho9 n5 hc9))).ownsRow w.heap.size 76 2 (.slice wo9 q3 wc9) q3 (flatW z2) ∧ (((((((((((wb.setCell ⟨w.heap.size + 1, 0, none⟩ (.int .i64 bud)).setCell ⟨w.heap.size + 1, 1, none⟩ (.slice (some ⟨gs, gf, none⟩) n1 pc9)).setCell ⟨w.heap.size + 1, 2, none⟩ (.slice so9 q2 sc9)).setCell ⟨w.heap.size + 1, 3, none⟩ (.slice wo9 q3 wc9)).setCell ⟨w.heap.size + 1, 4, none⟩ (.slice qo9 n4 tc9)).setCell ⟨w.heap.size + 1, 5, none⟩ (.bool bg)).setCell ⟨w.heap.size + 1, 6, none⟩ (.bool bk)).setCell ⟨w.heap.size + 1, 7, none⟩ (.int .i64 z3)).setCell ⟨w.heap.size + 1, 8, none⟩ (.int .i64 hb)).setCell ⟨w.heap.size + 1, 9, none⟩ (.slice ho9 n5 hc9))).ownsRow w.heap.size 72 3 (.slice qo9 n4 tc9) n4 (flatT ts) ∧ (((((((((((wb.setCell ⟨w.heap.size + 1, 0, none⟩ (.int .i64 bud)).setCell ⟨w.heap.size + 1, 1, none⟩ (.slice (some ⟨gs, gf, none⟩) n1 pc9)).setCell ⟨w.heap.size + 1, 2, none⟩ (.slice so9 q2 sc9)).setCell ⟨w.heap.size + 1, 3, none⟩ (.slice wo9 q3 wc9)).setCell ⟨w.heap.size + 1, 4, none⟩ (.slice qo9 n4 tc9)).setCell ⟨w.heap.size + 1, 5, none⟩ (.bool bg)).setCell ⟨w.heap.size + 1, 6, none⟩ (.bool bk)).setCell ⟨w.heap.size + 1, 7, none⟩ (.int .i64 z3)).setCell ⟨w.heap.size + 1, 8, none⟩ (.int .i64 hb)).setCell ⟨w.heap.size + 1, 9, none⟩ (.slice ho9 n5 hc9))).ownsRow w.heap.size 70 4 (.slice ho9 n5 hc9) n5 (flatP hs)) := ⟨own_st10 HOL.out.1 (own_ne10 HOL.out.1 (blk_nx HW.out.2.2.1 HBB.out) (by decide)) _ _ _ _ _ _ _ _ _ _, own_st10 HOL.out.2.1 (own_ne10 HOL.out.2.1 (blk_nx HW.out.2.2.1 HBB.out) (by decide)) _ _ _ _ _ _ _ _ _ _, own_st10 HOL.out.2.2.1 (own_ne10 HOL.out.2.2.1 (blk_nx HW.out.2.2.1 HBB.out) (by decide)) _ _ _ _ _ _ _ _ _ _, own_st10 HOL.out.2.2.2.1 (own_ne10 HOL.out.2.2.2.1 (blk_nx HW.out.2.2.1 HBB.out) (by decide)) _ _ _ _ _ _ _ _ _ _, own_st10 HOL.out.2.2.2.2 (own_ne10 HOL.out.2.2.2.2 (blk_nx HW.out.2.2.1 HBB.out) (by decide)) _ _ _ _ _ _ _ _ _ _⟩
                have HFW : Hid ((((((((((((wb.setCell ⟨w.heap.size + 1, 0, none⟩ (.int .i64 bud)).setCell ⟨w.heap.size + 1, 1, none⟩ (.slice (some ⟨gs, gf, none⟩) n1 pc9)).setCell ⟨w.heap.size + 1, 2, none⟩ (.slice so9 q2 sc9)).setCell ⟨w.heap.size + 1, 3, none⟩ (.slice wo9 q3 wc9)).setCell ⟨w.heap.size + 1, 4, none⟩ (.slice qo9 n4 tc9)).setCell ⟨w.heap.size + 1, 5, none⟩ (.bool bg)).setCell ⟨w.heap.size + 1, 6, none⟩ (.bool bk)).setCell ⟨w.heap.size + 1, 7, none⟩ (.int .i64 z3)).setCell ⟨w.heap.size + 1, 8, none⟩ (.int .i64 hb)).setCell ⟨w.heap.size + 1, 9, none⟩ (.slice ho9 n5 hc9))).heap[w.heap.size + 1]? = some (bWd (.int .i64 bud) (.slice (some ⟨gs, gf, none⟩) n1 pc9) (.slice so9 q2 sc9) (.slice wo9 q3 wc9) (.slice qo9 n4 tc9) (.bool bg) (.bool bk) (.int .i64 z3) (.int .i64 hb) (.slice ho9 n5 hc9))) := st10_heap (blk_nx HW.out.2.2.1 HBB.out) _ _ _ _ _ _ _ _ _ _
                have HFB : Hid (Below w.heap.size w (((((((((((wb.setCell ⟨w.heap.size + 1, 0, none⟩ (.int .i64 bud)).setCell ⟨w.heap.size + 1, 1, none⟩ (.slice (some ⟨gs, gf, none⟩) n1 pc9)).setCell ⟨w.heap.size + 1, 2, none⟩ (.slice so9 q2 sc9)).setCell ⟨w.heap.size + 1, 3, none⟩ (.slice wo9 q3 wc9)).setCell ⟨w.heap.size + 1, 4, none⟩ (.slice qo9 n4 tc9)).setCell ⟨w.heap.size + 1, 5, none⟩ (.bool bg)).setCell ⟨w.heap.size + 1, 6, none⟩ (.bool bk)).setCell ⟨w.heap.size + 1, 7, none⟩ (.int .i64 z3)).setCell ⟨w.heap.size + 1, 8, none⟩ (.int .i64 hb)).setCell ⟨w.heap.size + 1, 9, none⟩ (.slice ho9 n5 hc9)))) := st10_bel (nx_trans HW.out.2.2.2 HBB.out) (by omega) _ _ _ _ _ _ _ _ _ _
                go_wp2_with fail
                obtain ⟨FW, hFW⟩ : ∃ FW, ((((((((((wb.setCell ⟨w.heap.size + 1, 0, none⟩ (.int .i64 bud)).setCell ⟨w.heap.size + 1, 1, none⟩ (.slice (some ⟨gs, gf, none⟩) n1 pc9)).setCell ⟨w.heap.size + 1, 2, none⟩ (.slice so9 q2 sc9)).setCell ⟨w.heap.size + 1, 3, none⟩ (.slice wo9 q3 wc9)).setCell ⟨w.heap.size + 1, 4, none⟩ (.slice qo9 n4 tc9)).setCell ⟨w.heap.size + 1, 5, none⟩ (.bool bg)).setCell ⟨w.heap.size + 1, 6, none⟩ (.bool bk)).setCell ⟨w.heap.size + 1, 7, none⟩ (.int .i64 z3)).setCell ⟨w.heap.size + 1, 8, none⟩ (.int .i64 hb)).setCell ⟨w.heap.size + 1, 9, none⟩ (.slice ho9 n5 hc9)) = FW := ⟨_, rfl⟩
                rw [hFW] at HFW HFB HFO ⊢
                obtain ⟨f0, f1, f2, f3, f4, f5, f6, f7, f8, f9, fz⟩ := blk10 HFW.out
                clear hFW
                refine bodyPost_ret (v := .tuple #[.agg #[.int .i64 bud, .slice (some ⟨gs, gf, none⟩) n1 pc9, .slice so9 q2 sc9, .slice wo9 q3 wc9, .slice qo9 n4 tc9, .bool bg, .bool bk, .int .i64 z3, .int .i64 hb, .slice ho9 n5 hc9], .int .i64 0, .int .i64 0]) (by simp [results, Tryz.results35, go_sem, f0, f1, f2, f3, f4, f5, f6, f7, f8, f9]) rfl ?_
                unfold AskW
                have hZ1 : (servedR bud ps (ws.length + 1) ss (ws ++ [(⟨c, nm⟩ : Wtr)]) nx).1 = z1 := by rw [HZ.out]
                rw [if_pos HC1.out, HL.out, HM.out, HFP.out, if_neg (by simp)]
                simp only
                rw [hZ1, HFN.out]
                simp only
                rw [HCN.out, if_neg (by have := HCD.out; omega), HZ.out]
                refine ⟨_, rfl, (some ⟨gs, gf, none⟩), pc9, so9, sc9, wo9, wc9, qo9, tc9, ho9, hc9, ?_, ?_, ?_, ?_, ?_, ?_, HFB.out⟩
                · rw [HLN.out.1, HQL.out.1, HQL.out.2, HLN.out.2.2.2.1, HLN.out.2.2.2.2]
                · rw [HLN.out.1]; exact HFO.out.1
                · rw [HQL.out.1]; exact HFO.out.2.1
                · rw [HQL.out.2]; exact HFO.out.2.2.1
                · rw [HLN.out.2.2.2.1]; exact HFO.out.2.2.2.1
                · rw [HLN.out.2.2.2.2]; exact HFO.out.2.2.2.2

  · rw [decide_eq_false hc1]
    have HC1 := hideIt hc1
    clear hc1
    exact absurd HPP.out.1 HC1.out

theorem ask_any (bud : Int) (po : Option Addr) (n1 pc : Nat) (so : Option Addr) (n2 sc : Nat) (wo : Option Addr) (n3 wc : Nat) (qo : Option Addr) (n4 tc : Nat) (bg bk : Bool) (nx hb : Int) (ho : Option Addr) (n5 hc : Nat) (ps : List Pl) (ss : List Srv) (ws : List Wtr) (ts : List Stp) (hs : List Pl) (w : World) (c : Int) (nm : ByteArray) (hr1 : RowAt w (.slice po n1 pc) n1 (flatP ps)) (hn1 : ps.length = n1) (hq1 : n1 ≤ 1099511627774) (hr2 : RowAt w (.slice so n2 sc) n2 (flatV ss)) (hn2 : ss.length = n2) (hq2 : n2 ≤ 1099511627774) (hr3 : RowAt w (.slice wo n3 wc) n3 (flatW ws)) (hn3 : ws.length = n3) (hq3 : n3 ≤ 1099511627774) (hr4 : RowAt w (.slice qo n4 tc) n4 (flatT ts)) (hn4 : ts.length = n4) (hq4 : n4 ≤ 1099511627774) (hr5 : RowAt w (.slice ho n5 hc) n5 (flatP hs)) (hn5 : hs.length = n5) (hq5 : n5 ≤ 1099511627774) (hsf : n2 + n3 ≤ 549755813888) (hx0 : 0 ≤ nx) (hx1 : nx + n3 + 1 ≤ 4611686018427387904) :
    Calls Tryz.prog 35 #[.agg #[.int .i64 bud, .slice po n1 pc, .slice so n2 sc, .slice wo n3 wc, .slice qo n4 tc, .bool bg, .bool bk, .int .i64 nx, .int .i64 hb, .slice ho n5 hc], .int .i64 c, .string nm] w fun e w' => AskW w w' (.agg #[.int .i64 bud, .slice po n1 pc, .slice so n2 sc, .slice wo n3 wc, .slice qo n4 tc, .bool bg, .bool bk, .int .i64 nx, .int .i64 hb, .slice ho n5 hc]) bud ps ss ws ts bg bk nx hb hs c nm e := by
  by_cases h1 : 1 ≤ c ∧ c ≤ 99
  · cases h2 : ss.findIdx? (isCliV c) with
    | some k => exact ask_busy1 bud po n1 pc so n2 sc wo n3 wc qo n4 tc bg bk nx hb ho n5 hc ps ss ws ts hs w c nm hr1 hn1 hq1 hr2 hn2 hq2 hr3 hn3 hq3 hr4 hn4 hq4 hr5 hn5 hq5 ⟨h1, by rw [h2]; rfl⟩
    | none =>
      cases h3 : ws.findIdx? (isCliW c) with
      | some k => exact ask_busy2 bud po n1 pc so n2 sc wo n3 wc qo n4 tc bg bk nx hb ho n5 hc ps ss ws ts hs w c nm hr1 hn1 hq1 hr2 hn2 hq2 hr3 hn3 hq3 hr4 hn4 hq4 hr5 hn5 hq5 ⟨h1, h2, by rw [h3]; rfl⟩
      | none =>
        cases h4 : ps.findIdx? (isNameP nm) with
        | none => exact ask_pool bud po n1 pc so n2 sc wo n3 wc qo n4 tc bg bk nx hb ho n5 hc ps ss ws ts hs w c nm hr1 hn1 hq1 hr2 hn2 hq2 hr3 hn3 hq3 hr4 hn4 hq4 hr5 hn5 hq5 ⟨h1, h2, h3, h4⟩
        | some k => exact ask_main bud po n1 pc so n2 sc wo n3 wc qo n4 tc bg bk nx hb ho n5 hc ps ss ws ts hs w c nm hr1 hn1 hq1 hr2 hn2 hq2 hr3 hn3 hq3 hr4 hn4 hq4 hr5 hn5 hq5 hsf hx0 hx1 ⟨h1, h2, h3, by rw [h4]; rfl⟩
  · exact ask_client bud po n1 pc so n2 sc wo n3 wc qo n4 tc bg bk nx hb ho n5 hc ps ss ws ts hs w c nm hr1 hn1 hq1 hr2 hn2 hq2 hr3 hn3 hq3 hr4 hn4 hq4 hr5 hn5 hq5 h1
end Lw
end Go.Proofs.YtmmmjpkhnbfnbaaGreat
