import Derived.Test.YtmmmjpkhnbfnbaaGreatMgZ
namespace Go.Proofs.YtmmmjpkhnbfnbaaGreat
open Go.RowKit
namespace Lw
open Co

/-- what Leave answers -/
def LeaveW (w w' : World) (inp : Value) (bud : Int) (ps : List Pl) (ss : List Srv) (ws : List Wtr) (ts : List Stp) (bg bk : Bool) (nx hb : Int) (hs : List Pl) (c : Int) (e : Ending) : Prop :=
  if 1 ≤ c ∧ c ≤ 99 then match ws.findIdx? (isCliW c) with
    | none => e = .returned (.tuple #[inp, .int .i64 14]) ∧ Below w.heap.size w w'
    | some l => ∃ v, e = .returned (.tuple #[v, .int .i64 0]) ∧ GaveW w w' bud ps ss (ws.eraseIdx l) ts bg bk nx hb hs (.returned v)
  else e = .returned (.tuple #[inp, .int .i64 10]) ∧ Below w.heap.size w w'
theorem btw_any (n lo hi : Int) (w : World) :
    Calls Tryz.prog 64 #[.int .i64 n, .int .i64 lo, .int .i64 hi] w fun e w' => e = .returned (.bool (decide (lo ≤ n ∧ n ≤ hi))) ∧ w' = w := by
  by_cases h1 : lo ≤ n
  · by_cases h2 : n ≤ hi
    · go_enter Tryz.func64, Tryz.ntmps64
      go_wp2_with fail
      go_ret
      exact ⟨by simp [h1, h2], rfl⟩
    · go_enter Tryz.func64, Tryz.ntmps64
      go_wp2_with fail
      go_ret
      exact ⟨by simp; omega, rfl⟩
  · go_enter Tryz.func64, Tryz.ntmps64
    go_wp2_with fail
    go_ret
    exact ⟨by simp; omega, rfl⟩

set_option maxRecDepth 20000 in
set_option maxHeartbeats 8000000 in
theorem leave_any (bud : Int) (po : Option Addr) (n1 pc : Nat) (so : Option Addr) (n2 sc : Nat) (wo : Option Addr) (n3 wc : Nat) (qo : Option Addr) (n4 tc : Nat) (bg bk : Bool) (nx hb : Int) (ho : Option Addr) (n5 hc : Nat) (ps : List Pl) (ss : List Srv) (ws : List Wtr) (ts : List Stp) (hs : List Pl) (w : World) (c : Int) (hr1 : RowAt w (.slice po n1 pc) n1 (flatP ps)) (hn1 : ps.length = n1) (hq1 : n1 ≤ 1099511627776) (hr2 : RowAt w (.slice so n2 sc) n2 (flatV ss)) (hn2 : ss.length = n2) (hq2 : n2 ≤ 1099511627776) (hr3 : RowAt w (.slice wo n3 wc) n3 (flatW ws)) (hn3 : ws.length = n3) (hq3 : n3 ≤ 1099511627776) (hr4 : RowAt w (.slice qo n4 tc) n4 (flatT ts)) (hn4 : ts.length = n4) (hq4 : n4 ≤ 1099511627776) (hr5 : RowAt w (.slice ho n5 hc) n5 (flatP hs)) (hn5 : hs.length = n5) (hq5 : n5 ≤ 1099511627776) :
    Calls Tryz.prog 39 #[.agg #[.int .i64 bud, .slice po n1 pc, .slice so n2 sc, .slice wo n3 wc, .slice qo n4 tc, .bool bg, .bool bk, .int .i64 nx, .int .i64 hb, .slice ho n5 hc], .int .i64 c] w fun e w' => LeaveW w w' (.agg #[.int .i64 bud, .slice po n1 pc, .slice so n2 sc, .slice wo n3 wc, .slice qo n4 tc, .bool bg, .bool bk, .int .i64 nx, .int .i64 hb, .slice ho n5 hc]) bud ps ss ws ts bg bk nx hb hs c e := by
  obtain ⟨W, hW⟩ : ∃ W, W = (w.alloc (bWd (.int .i64 bud) (.slice po n1 pc) (.slice so n2 sc) (.slice wo n3 wc) (.slice qo n4 tc) (.bool bg) (.bool bk) (.int .i64 nx) (.int .i64 hb) (.slice ho n5 hc))).alloc zW := ⟨_, rfl⟩
  have hbW : Below w.heap.size w W := by rw [hW]; exact nx_trans (nx_alloc _ _) (nx_alloc _ _)
  have HW : Hid (W = (w.alloc (bWd (.int .i64 bud) (.slice po n1 pc) (.slice so n2 sc) (.slice wo n3 wc) (.slice qo n4 tc) (.bool bg) (.bool bk) (.int .i64 nx) (.int .i64 hb) (.slice ho n5 hc))).alloc zW ∧ W.heap[w.heap.size]? = some (bWd (.int .i64 bud) (.slice po n1 pc) (.slice so n2 sc) (.slice wo n3 wc) (.slice qo n4 tc) (.bool bg) (.bool bk) (.int .i64 nx) (.int .i64 hb) (.slice ho n5 hc)) ∧ W.heap[w.heap.size + 1]? = some zW ∧ Below w.heap.size w W) := by
    refine ⟨hW, ?_, ?_, hbW⟩
    · rw [hW]; exact (heap_alloc_lt _ _ (by simp)).trans (heap_alloc_at _ _ rfl)
    · rw [hW]; exact heap_alloc_at _ _ (by simp)

  have HWT := hideIt (fun u (hb' : Below W.heap.size W u) => rWaits bud po n1 pc so n2 sc wo n3 wc qo n4 tc bg bk nx hb ho n5 hc c ws u ((hr3.nx hbW).nx hb') hn3 (by unfold maxLen; omega))
  have HLF := hideIt (fun (l : Nat) u (hb' : Below W.heap.size W u) => left_any bud po n1 pc so n2 sc wo n3 wc qo n4 tc bg bk nx hb ho n5 hc ps ss ws ts hs u l ((hr1.nx hbW).nx hb') hn1 hq1 ((hr2.nx hbW).nx hb') hn2 hq2 ((hr3.nx hbW).nx hb') hn3 hq3 ((hr4.nx hbW).nx hb') hn4 hq4 ((hr5.nx hbW).nx hb') hn5 hq5)
  have HLN : Hid (ps.length = n1 ∧ ss.length = n2 ∧ ws.length = n3 ∧ ts.length = n4 ∧ hs.length = n5) := ⟨hn1, hn2, hn3, hn4, hn5⟩
  clear hr1 hn1 hr2 hn2 hr3 hn3 hr4 hn4 hr5 hn5 hW hbW
  go_enter Tryz.func39, Tryz.ntmps39
  go_wp2_with fail
  rw [← HW.out.1]
  refine (btw_any c 1 99 W).mono ?_
  rintro e w1 ⟨rfl, h1⟩
  obtain rfl := h1.symm
  obtain ⟨a0, a1, a2, a3, a4, a5, a6, a7, a8, a9, az⟩ := blk10 (blk_nx HW.out.2.1 (Below.refl _ W))
  obtain ⟨r0, r1, r2, r3, r4, r5, r6, r7, r8, r9, rz⟩ := blk10 (blk_nx HW.out.2.2.1 (Below.refl _ W))
  by_cases hc1 : 1 ≤ c ∧ c ≤ 99
  · rw [decide_eq_true hc1]
    have HC1 := hideIt hc1
    clear hc1
    go_wp2_with fail
    refine (HWT.out W (Below.refl _ W)).mono ?_
    rintro e w2 ⟨rfl, hb2⟩
    have HB2 := hideIt hb2
    clear hb2
    clear a0 a1 a2 a3 a4 a5 a6 a7 a8 a9 az r0 r1 r2 r3 r4 r5 r6 r7 r8 r9 rz
    obtain ⟨a0, a1, a2, a3, a4, a5, a6, a7, a8, a9, az⟩ := blk10 (blk_nx HW.out.2.1 HB2.out)
    obtain ⟨r0, r1, r2, r3, r4, r5, r6, r7, r8, r9, rz⟩ := blk10 (blk_nx HW.out.2.2.1 HB2.out)
    cases hl : ws.findIdx? (isCliW c) with
    | none =>
      have HL := hideIt hl
      clear hl
      unfold optI
      have HFW : Hid ((((((((((((w2.setCell ⟨w.heap.size + 1, 0, none⟩ (.int .i64 bud)).setCell ⟨w.heap.size + 1, 1, none⟩ (.slice po n1 pc)).setCell ⟨w.heap.size + 1, 2, none⟩ (.slice so n2 sc)).setCell ⟨w.heap.size + 1, 3, none⟩ (.slice wo n3 wc)).setCell ⟨w.heap.size + 1, 4, none⟩ (.slice qo n4 tc)).setCell ⟨w.heap.size + 1, 5, none⟩ (.bool bg)).setCell ⟨w.heap.size + 1, 6, none⟩ (.bool bk)).setCell ⟨w.heap.size + 1, 7, none⟩ (.int .i64 nx)).setCell ⟨w.heap.size + 1, 8, none⟩ (.int .i64 hb)).setCell ⟨w.heap.size + 1, 9, none⟩ (.slice ho n5 hc))).heap[w.heap.size + 1]? = some (bWd (.int .i64 bud) (.slice po n1 pc) (.slice so n2 sc) (.slice wo n3 wc) (.slice qo n4 tc) (.bool bg) (.bool bk) (.int .i64 nx) (.int .i64 hb) (.slice ho n5 hc))) := st10_heap (blk_nx HW.out.2.2.1 HB2.out) _ _ _ _ _ _ _ _ _ _
      have HFB : Hid (Below w.heap.size w (((((((((((w2.setCell ⟨w.heap.size + 1, 0, none⟩ (.int .i64 bud)).setCell ⟨w.heap.size + 1, 1, none⟩ (.slice po n1 pc)).setCell ⟨w.heap.size + 1, 2, none⟩ (.slice so n2 sc)).setCell ⟨w.heap.size + 1, 3, none⟩ (.slice wo n3 wc)).setCell ⟨w.heap.size + 1, 4, none⟩ (.slice qo n4 tc)).setCell ⟨w.heap.size + 1, 5, none⟩ (.bool bg)).setCell ⟨w.heap.size + 1, 6, none⟩ (.bool bk)).setCell ⟨w.heap.size + 1, 7, none⟩ (.int .i64 nx)).setCell ⟨w.heap.size + 1, 8, none⟩ (.int .i64 hb)).setCell ⟨w.heap.size + 1, 9, none⟩ (.slice ho n5 hc)))) := st10_bel (nx_trans HW.out.2.2.2 HB2.out) (by omega) _ _ _ _ _ _ _ _ _ _
      go_wp2_with fail
      obtain ⟨FW, hFW⟩ : ∃ FW, ((((((((((w2.setCell ⟨w.heap.size + 1, 0, none⟩ (.int .i64 bud)).setCell ⟨w.heap.size + 1, 1, none⟩ (.slice po n1 pc)).setCell ⟨w.heap.size + 1, 2, none⟩ (.slice so n2 sc)).setCell ⟨w.heap.size + 1, 3, none⟩ (.slice wo n3 wc)).setCell ⟨w.heap.size + 1, 4, none⟩ (.slice qo n4 tc)).setCell ⟨w.heap.size + 1, 5, none⟩ (.bool bg)).setCell ⟨w.heap.size + 1, 6, none⟩ (.bool bk)).setCell ⟨w.heap.size + 1, 7, none⟩ (.int .i64 nx)).setCell ⟨w.heap.size + 1, 8, none⟩ (.int .i64 hb)).setCell ⟨w.heap.size + 1, 9, none⟩ (.slice ho n5 hc)) = FW := ⟨_, rfl⟩
      rw [hFW] at HFW HFB ⊢
      obtain ⟨f0, f1, f2, f3, f4, f5, f6, f7, f8, f9, fz⟩ := blk10 HFW.out
      clear hFW
      refine bodyPost_ret (v := .tuple #[.agg #[.int .i64 bud, .slice po n1 pc, .slice so n2 sc, .slice wo n3 wc, .slice qo n4 tc, .bool bg, .bool bk, .int .i64 nx, .int .i64 hb, .slice ho n5 hc], .int .i64 14]) (by simp [results, Tryz.results39, go_sem, f0, f1, f2, f3, f4, f5, f6, f7, f8, f9]) rfl ?_
      unfold LeaveW
      rw [if_pos HC1.out, HL.out]
      exact ⟨rfl, HFB.out⟩
    | some l =>
      have HL := hideIt hl
      clear hl
      have hl0 : ¬ (l : Int) < 0 := by omega
      unfold optI
      go_wp2_with fail
      refine (HLF.out l w2 HB2.out).mono ?_
      rintro e w3 ⟨po3, pc3, so3, sc3, wo3, wc3, qo3, tc3, ho3, hc3, rfl, o0, o1, o2, o3, o4, hb3⟩
      have HB3 := hideIt (nx_trans HB2.out hb3)
      rw [HLN.out.1] at o0 ⊢
      rw [HLN.out.2.1] at o1 ⊢
      rw [HLN.out.2.2.2.1] at o3 ⊢
      rw [HLN.out.2.2.2.2] at o4 ⊢
      obtain ⟨m3, hm3⟩ : ∃ m3, (ws.eraseIdx l).length = m3 := ⟨_, rfl⟩
      rw [hm3] at o2 ⊢
      have HM3 := hideIt hm3
      have HO3 := hideIt (And.intro o0 (And.intro o1 (And.intro o2 (And.intro o3 o4))))
      clear o0 o1 o2 o3 o4 hb3 hm3
      clear a0 a1 a2 a3 a4 a5 a6 a7 a8 a9 az r0 r1 r2 r3 r4 r5 r6 r7 r8 r9 rz
      obtain ⟨r0, r1, r2, r3, r4, r5, r6, r7, r8, r9, rz⟩ := blk10 (blk_nx HW.out.2.2.1 HB3.out)
      have HFO : Hid ((((((((((((w3.setCell ⟨w.heap.size + 1, 0, none⟩ (.int .i64 bud)).setCell ⟨w.heap.size + 1, 1, none⟩ (.slice po3 n1 pc3)).setCell ⟨w.heap.size + 1, 2, none⟩ (.slice so3 n2 sc3)).setCell ⟨w.heap.size + 1, 3, none⟩ (.slice wo3 m3 wc3)).setCell ⟨w.heap.size + 1, 4, none⟩ (.slice qo3 n4 tc3)).setCell ⟨w.heap.size + 1, 5, none⟩ (.bool bg)).setCell ⟨w.heap.size + 1, 6, none⟩ (.bool bk)).setCell ⟨w.heap.size + 1, 7, none⟩ (.int .i64 nx)).setCell ⟨w.heap.size + 1, 8, none⟩ (.int .i64 hb)).setCell ⟨w.heap.size + 1, 9, none⟩ (.slice ho3 n5 hc3))).ownsRow w.heap.size 70 4 (.slice po3 n1 pc3) n1 (flatP ps) ∧ (((((((((((w3.setCell ⟨w.heap.size + 1, 0, none⟩ (.int .i64 bud)).setCell ⟨w.heap.size + 1, 1, none⟩ (.slice po3 n1 pc3)).setCell ⟨w.heap.size + 1, 2, none⟩ (.slice so3 n2 sc3)).setCell ⟨w.heap.size + 1, 3, none⟩ (.slice wo3 m3 wc3)).setCell ⟨w.heap.size + 1, 4, none⟩ (.slice qo3 n4 tc3)).setCell ⟨w.heap.size + 1, 5, none⟩ (.bool bg)).setCell ⟨w.heap.size + 1, 6, none⟩ (.bool bk)).setCell ⟨w.heap.size + 1, 7, none⟩ (.int .i64 nx)).setCell ⟨w.heap.size + 1, 8, none⟩ (.int .i64 hb)).setCell ⟨w.heap.size + 1, 9, none⟩ (.slice ho3 n5 hc3))).ownsRow w.heap.size 74 4 (.slice so3 n2 sc3) n2 (flatV ss) ∧ (((((((((((w3.setCell ⟨w.heap.size + 1, 0, none⟩ (.int .i64 bud)).setCell ⟨w.heap.size + 1, 1, none⟩ (.slice po3 n1 pc3)).setCell ⟨w.heap.size + 1, 2, none⟩ (.slice so3 n2 sc3)).setCell ⟨w.heap.size + 1, 3, none⟩ (.slice wo3 m3 wc3)).setCell ⟨w.heap.size + 1, 4, none⟩ (.slice qo3 n4 tc3)).setCell ⟨w.heap.size + 1, 5, none⟩ (.bool bg)).setCell ⟨w.heap.size + 1, 6, none⟩ (.bool bk)).setCell ⟨w.heap.size + 1, 7, none⟩ (.int .i64 nx)).setCell ⟨w.heap.size + 1, 8, none⟩ (.int .i64 hb)).setCell ⟨w.heap.size + 1, 9, none⟩ (.slice ho3 n5 hc3))).ownsRow w.heap.size 76 2 (.slice wo3 m3 wc3) m3 (flatW (ws.eraseIdx l)) ∧ (((((((((((w3.setCell ⟨w.heap.size + 1, 0, none⟩ (.int .i64 bud)).setCell ⟨w.heap.size + 1, 1, none⟩ (.slice po3 n1 pc3)).setCell ⟨w.heap.size + 1, 2, none⟩ (.slice so3 n2 sc3)).setCell ⟨w.heap.size + 1, 3, none⟩ (.slice wo3 m3 wc3)).setCell ⟨w.heap.size + 1, 4, none⟩ (.slice qo3 n4 tc3)).setCell ⟨w.heap.size + 1, 5, none⟩ (.bool bg)).setCell ⟨w.heap.size + 1, 6, none⟩ (.bool bk)).setCell ⟨w.heap.size + 1, 7, none⟩ (.int .i64 nx)).setCell ⟨w.heap.size + 1, 8, none⟩ (.int .i64 hb)).setCell ⟨w.heap.size + 1, 9, none⟩ (.slice ho3 n5 hc3))).ownsRow w.heap.size 72 3 (.slice qo3 n4 tc3) n4 (flatT ts) ∧ (((((((((((w3.setCell ⟨w.heap.size + 1, 0, none⟩ (.int .i64 bud)).setCell ⟨w.heap.size + 1, 1, none⟩ (.slice po3 n1 pc3)).setCell ⟨w.heap.size + 1, 2, none⟩ (.slice so3 n2 sc3)).setCell ⟨w.heap.size + 1, 3, none⟩ (.slice wo3 m3 wc3)).setCell ⟨w.heap.size + 1, 4, none⟩ (.slice qo3 n4 tc3)).setCell ⟨w.heap.size + 1, 5, none⟩ (.bool bg)).setCell ⟨w.heap.size + 1, 6, none⟩ (.bool bk)).setCell ⟨w.heap.size + 1, 7, none⟩ (.int .i64 nx)).setCell ⟨w.heap.size + 1, 8, none⟩ (.int .i64 hb)).setCell ⟨w.heap.size + 1, 9, none⟩ (.slice ho3 n5 hc3))).ownsRow w.heap.size 70 4 (.slice ho3 n5 hc3) n5 (flatP hs)) := ⟨own_mono (own_st10 HO3.out.1 (own_ne10 HO3.out.1 (blk_nx HW.out.2.2.1 HB3.out) (by decide)) _ _ _ _ _ _ _ _ _ _) (Nat.le_trans HW.out.2.2.2.size HB2.out.size), own_mono (own_st10 HO3.out.2.1 (own_ne10 HO3.out.2.1 (blk_nx HW.out.2.2.1 HB3.out) (by decide)) _ _ _ _ _ _ _ _ _ _) (Nat.le_trans HW.out.2.2.2.size HB2.out.size), own_mono (own_st10 HO3.out.2.2.1 (own_ne10 HO3.out.2.2.1 (blk_nx HW.out.2.2.1 HB3.out) (by decide)) _ _ _ _ _ _ _ _ _ _) (Nat.le_trans HW.out.2.2.2.size HB2.out.size), own_mono (own_st10 HO3.out.2.2.2.1 (own_ne10 HO3.out.2.2.2.1 (blk_nx HW.out.2.2.1 HB3.out) (by decide)) _ _ _ _ _ _ _ _ _ _) (Nat.le_trans HW.out.2.2.2.size HB2.out.size), own_mono (own_st10 HO3.out.2.2.2.2 (own_ne10 HO3.out.2.2.2.2 (blk_nx HW.out.2.2.1 HB3.out) (by decide)) _ _ _ _ _ _ _ _ _ _) (Nat.le_trans HW.out.2.2.2.size HB2.out.size)⟩
      have HFW : Hid ((((((((((((w3.setCell ⟨w.heap.size + 1, 0, none⟩ (.int .i64 bud)).setCell ⟨w.heap.size + 1, 1, none⟩ (.slice po3 n1 pc3)).setCell ⟨w.heap.size + 1, 2, none⟩ (.slice so3 n2 sc3)).setCell ⟨w.heap.size + 1, 3, none⟩ (.slice wo3 m3 wc3)).setCell ⟨w.heap.size + 1, 4, none⟩ (.slice qo3 n4 tc3)).setCell ⟨w.heap.size + 1, 5, none⟩ (.bool bg)).setCell ⟨w.heap.size + 1, 6, none⟩ (.bool bk)).setCell ⟨w.heap.size + 1, 7, none⟩ (.int .i64 nx)).setCell ⟨w.heap.size + 1, 8, none⟩ (.int .i64 hb)).setCell ⟨w.heap.size + 1, 9, none⟩ (.slice ho3 n5 hc3))).heap[w.heap.size + 1]? = some (bWd (.int .i64 bud) (.slice po3 n1 pc3) (.slice so3 n2 sc3) (.slice wo3 m3 wc3) (.slice qo3 n4 tc3) (.bool bg) (.bool bk) (.int .i64 nx) (.int .i64 hb) (.slice ho3 n5 hc3))) := st10_heap (blk_nx HW.out.2.2.1 HB3.out) _ _ _ _ _ _ _ _ _ _
      have HFB : Hid (Below w.heap.size w (((((((((((w3.setCell ⟨w.heap.size + 1, 0, none⟩ (.int .i64 bud)).setCell ⟨w.heap.size + 1, 1, none⟩ (.slice po3 n1 pc3)).setCell ⟨w.heap.size + 1, 2, none⟩ (.slice so3 n2 sc3)).setCell ⟨w.heap.size + 1, 3, none⟩ (.slice wo3 m3 wc3)).setCell ⟨w.heap.size + 1, 4, none⟩ (.slice qo3 n4 tc3)).setCell ⟨w.heap.size + 1, 5, none⟩ (.bool bg)).setCell ⟨w.heap.size + 1, 6, none⟩ (.bool bk)).setCell ⟨w.heap.size + 1, 7, none⟩ (.int .i64 nx)).setCell ⟨w.heap.size + 1, 8, none⟩ (.int .i64 hb)).setCell ⟨w.heap.size + 1, 9, none⟩ (.slice ho3 n5 hc3)))) := st10_bel (nx_trans HW.out.2.2.2 HB3.out) (by omega) _ _ _ _ _ _ _ _ _ _
      go_wp2_with fail
      obtain ⟨FW, hFW⟩ : ∃ FW, ((((((((((w3.setCell ⟨w.heap.size + 1, 0, none⟩ (.int .i64 bud)).setCell ⟨w.heap.size + 1, 1, none⟩ (.slice po3 n1 pc3)).setCell ⟨w.heap.size + 1, 2, none⟩ (.slice so3 n2 sc3)).setCell ⟨w.heap.size + 1, 3, none⟩ (.slice wo3 m3 wc3)).setCell ⟨w.heap.size + 1, 4, none⟩ (.slice qo3 n4 tc3)).setCell ⟨w.heap.size + 1, 5, none⟩ (.bool bg)).setCell ⟨w.heap.size + 1, 6, none⟩ (.bool bk)).setCell ⟨w.heap.size + 1, 7, none⟩ (.int .i64 nx)).setCell ⟨w.heap.size + 1, 8, none⟩ (.int .i64 hb)).setCell ⟨w.heap.size + 1, 9, none⟩ (.slice ho3 n5 hc3)) = FW := ⟨_, rfl⟩
      rw [hFW] at HFW HFB HFO ⊢
      obtain ⟨f0, f1, f2, f3, f4, f5, f6, f7, f8, f9, fz⟩ := blk10 HFW.out
      clear hFW
      refine bodyPost_ret (v := .tuple #[.agg #[.int .i64 bud, .slice po3 n1 pc3, .slice so3 n2 sc3, .slice wo3 m3 wc3, .slice qo3 n4 tc3, .bool bg, .bool bk, .int .i64 nx, .int .i64 hb, .slice ho3 n5 hc3], .int .i64 0]) (by simp [results, Tryz.results39, go_sem, f0, f1, f2, f3, f4, f5, f6, f7, f8, f9]) rfl ?_
      unfold LeaveW
      rw [if_pos HC1.out, HL.out]
      refine ⟨_, rfl, po3, pc3, so3, sc3, wo3, wc3, qo3, tc3, ho3, hc3, ?_, ?_, ?_, ?_, ?_, ?_, HFB.out⟩
      · simp only [HM3.out, HLN.out.1, HLN.out.2.1, HLN.out.2.2.2.1, HLN.out.2.2.2.2]
      · rw [HLN.out.1]; exact HFO.out.1
      · rw [HLN.out.2.1]; exact HFO.out.2.1
      · rw [HM3.out]; exact HFO.out.2.2.1
      · rw [HLN.out.2.2.2.1]; exact HFO.out.2.2.2.1
      · rw [HLN.out.2.2.2.2]; exact HFO.out.2.2.2.2
  · rw [decide_eq_false hc1]
    have HC1 := hideIt hc1
    clear hc1
    have HFW : Hid ((((((((((((W.setCell ⟨w.heap.size + 1, 0, none⟩ (.int .i64 bud)).setCell ⟨w.heap.size + 1, 1, none⟩ (.slice po n1 pc)).setCell ⟨w.heap.size + 1, 2, none⟩ (.slice so n2 sc)).setCell ⟨w.heap.size + 1, 3, none⟩ (.slice wo n3 wc)).setCell ⟨w.heap.size + 1, 4, none⟩ (.slice qo n4 tc)).setCell ⟨w.heap.size + 1, 5, none⟩ (.bool bg)).setCell ⟨w.heap.size + 1, 6, none⟩ (.bool bk)).setCell ⟨w.heap.size + 1, 7, none⟩ (.int .i64 nx)).setCell ⟨w.heap.size + 1, 8, none⟩ (.int .i64 hb)).setCell ⟨w.heap.size + 1, 9, none⟩ (.slice ho n5 hc))).heap[w.heap.size + 1]? = some (bWd (.int .i64 bud) (.slice po n1 pc) (.slice so n2 sc) (.slice wo n3 wc) (.slice qo n4 tc) (.bool bg) (.bool bk) (.int .i64 nx) (.int .i64 hb) (.slice ho n5 hc))) := st10_heap (blk_nx HW.out.2.2.1 (Below.refl _ W)) _ _ _ _ _ _ _ _ _ _
    have HFB : Hid (Below w.heap.size w (((((((((((W.setCell ⟨w.heap.size + 1, 0, none⟩ (.int .i64 bud)).setCell ⟨w.heap.size + 1, 1, none⟩ (.slice po n1 pc)).setCell ⟨w.heap.size + 1, 2, none⟩ (.slice so n2 sc)).setCell ⟨w.heap.size + 1, 3, none⟩ (.slice wo n3 wc)).setCell ⟨w.heap.size + 1, 4, none⟩ (.slice qo n4 tc)).setCell ⟨w.heap.size + 1, 5, none⟩ (.bool bg)).setCell ⟨w.heap.size + 1, 6, none⟩ (.bool bk)).setCell ⟨w.heap.size + 1, 7, none⟩ (.int .i64 nx)).setCell ⟨w.heap.size + 1, 8, none⟩ (.int .i64 hb)).setCell ⟨w.heap.size + 1, 9, none⟩ (.slice ho n5 hc)))) := st10_bel (nx_trans HW.out.2.2.2 (Below.refl _ W)) (by omega) _ _ _ _ _ _ _ _ _ _
    go_wp2_with fail
    obtain ⟨FW, hFW⟩ : ∃ FW, ((((((((((W.setCell ⟨w.heap.size + 1, 0, none⟩ (.int .i64 bud)).setCell ⟨w.heap.size + 1, 1, none⟩ (.slice po n1 pc)).setCell ⟨w.heap.size + 1, 2, none⟩ (.slice so n2 sc)).setCell ⟨w.heap.size + 1, 3, none⟩ (.slice wo n3 wc)).setCell ⟨w.heap.size + 1, 4, none⟩ (.slice qo n4 tc)).setCell ⟨w.heap.size + 1, 5, none⟩ (.bool bg)).setCell ⟨w.heap.size + 1, 6, none⟩ (.bool bk)).setCell ⟨w.heap.size + 1, 7, none⟩ (.int .i64 nx)).setCell ⟨w.heap.size + 1, 8, none⟩ (.int .i64 hb)).setCell ⟨w.heap.size + 1, 9, none⟩ (.slice ho n5 hc)) = FW := ⟨_, rfl⟩
    rw [hFW] at HFW HFB ⊢
    obtain ⟨f0, f1, f2, f3, f4, f5, f6, f7, f8, f9, fz⟩ := blk10 HFW.out
    clear hFW
    refine bodyPost_ret (v := .tuple #[.agg #[.int .i64 bud, .slice po n1 pc, .slice so n2 sc, .slice wo n3 wc, .slice qo n4 tc, .bool bg, .bool bk, .int .i64 nx, .int .i64 hb, .slice ho n5 hc], .int .i64 10]) (by simp [results, Tryz.results39, go_sem, f0, f1, f2, f3, f4, f5, f6, f7, f8, f9]) rfl ?_
    unfold LeaveW
    rw [if_neg HC1.out]
    exact ⟨rfl, HFB.out⟩

end Lw
end Go.Proofs.YtmmmjpkhnbfnbaaGreat
namespace Go.Proofs.YtmmmjpkhnbfnbaaGreat
open Go.RowKit
namespace Lw
open Co

def isIdR (id : Int) (x : Srv) : Bool := x.id == id
/-- what Crash answers -/
def CrashW (w w' : World) (inp : Value) (bud : Int) (ps : List Pl) (ss : List Srv) (ws : List Wtr) (ts : List Stp) (bg bk : Bool) (nx hb : Int) (hs : List Pl) (id : Int) (e : Ending) : Prop :=
  match ss.findIdx? (isIdR id) with
  | none => e = .returned (.tuple #[inp, .int .i64 15]) ∧ Below w.heap.size w w'
  | some k => ∃ v, e = .returned (.tuple #[v, .int .i64 0]) ∧ GaveO w.heap.size w w' bud ps (servedR bud ps ws.length (ss.eraseIdx k) ws nx).1 (servedR bud ps ws.length (ss.eraseIdx k) ws nx).2.1 ts bg bk (servedR bud ps ws.length (ss.eraseIdx k) ws nx).2.2 hb hs (.returned v)

set_option maxRecDepth 20000 in
set_option maxHeartbeats 8000000 in
theorem crash_any (bud : Int) (po : Option Addr) (n1 pc : Nat) (so : Option Addr) (n2 sc : Nat) (wo : Option Addr) (n3 wc : Nat) (qo : Option Addr) (n4 tc : Nat) (bg bk : Bool) (nx hb : Int) (ho : Option Addr) (n5 hc : Nat) (ps : List Pl) (ss : List Srv) (ws : List Wtr) (ts : List Stp) (hs : List Pl) (w : World) (id : Int) (hr1 : RowAt w (.slice po n1 pc) n1 (flatP ps)) (hn1 : ps.length = n1) (hq1 : n1 ≤ 1099511627775) (hr2 : RowAt w (.slice so n2 sc) n2 (flatV ss)) (hn2 : ss.length = n2) (hq2 : n2 ≤ 1099511627775) (hr3 : RowAt w (.slice wo n3 wc) n3 (flatW ws)) (hn3 : ws.length = n3) (hq3 : n3 ≤ 1099511627775) (hr4 : RowAt w (.slice qo n4 tc) n4 (flatT ts)) (hn4 : ts.length = n4) (hq4 : n4 ≤ 1099511627775) (hr5 : RowAt w (.slice ho n5 hc) n5 (flatP hs)) (hn5 : hs.length = n5) (hq5 : n5 ≤ 1099511627775) (hsf : n2 + n3 ≤ 1099511627775) (hx0 : 0 ≤ nx) (hx1 : nx + n3 ≤ 4611686018427387904) :
    Calls Tryz.prog 41 #[.agg #[.int .i64 bud, .slice po n1 pc, .slice so n2 sc, .slice wo n3 wc, .slice qo n4 tc, .bool bg, .bool bk, .int .i64 nx, .int .i64 hb, .slice ho n5 hc], .int .i64 id] w fun e w' => CrashW w w' (.agg #[.int .i64 bud, .slice po n1 pc, .slice so n2 sc, .slice wo n3 wc, .slice qo n4 tc, .bool bg, .bool bk, .int .i64 nx, .int .i64 hb, .slice ho n5 hc]) bud ps ss ws ts bg bk nx hb hs id e := by
  obtain ⟨W, hW⟩ : ∃ W, W = (w.alloc (bWd (.int .i64 bud) (.slice po n1 pc) (.slice so n2 sc) (.slice wo n3 wc) (.slice qo n4 tc) (.bool bg) (.bool bk) (.int .i64 nx) (.int .i64 hb) (.slice ho n5 hc))).alloc zW := ⟨_, rfl⟩
  have hbW : Below w.heap.size w W := by rw [hW]; exact nx_trans (nx_alloc _ _) (nx_alloc _ _)
  have HW : Hid (W = (w.alloc (bWd (.int .i64 bud) (.slice po n1 pc) (.slice so n2 sc) (.slice wo n3 wc) (.slice qo n4 tc) (.bool bg) (.bool bk) (.int .i64 nx) (.int .i64 hb) (.slice ho n5 hc))).alloc zW ∧ W.heap[w.heap.size]? = some (bWd (.int .i64 bud) (.slice po n1 pc) (.slice so n2 sc) (.slice wo n3 wc) (.slice qo n4 tc) (.bool bg) (.bool bk) (.int .i64 nx) (.int .i64 hb) (.slice ho n5 hc)) ∧ W.heap[w.heap.size + 1]? = some zW ∧ Below w.heap.size w W) := by
    refine ⟨hW, ?_, ?_, hbW⟩
    · rw [hW]; exact (heap_alloc_lt _ _ (by simp)).trans (heap_alloc_at _ _ rfl)
    · rw [hW]; exact heap_alloc_at _ _ (by simp)

  have HCL := hideIt (fun (k : Nat) u (hb' : Below W.heap.size W u) => closed_any bud po n1 pc so n2 sc wo n3 wc qo n4 tc bg bk nx hb ho n5 hc ps ss ws ts hs u k ((hr1.nx hbW).nx hb') hn1 (by omega) ((hr2.nx hbW).nx hb') hn2 (by omega) ((hr3.nx hbW).nx hb') hn3 (by omega) ((hr4.nx hbW).nx hb') hn4 (by omega) ((hr5.nx hbW).nx hb') hn5 (by omega))
  have HLN : Hid (ps.length = n1 ∧ ss.length = n2 ∧ ws.length = n3 ∧ ts.length = n4 ∧ hs.length = n5) := ⟨hn1, hn2, hn3, hn4, hn5⟩
  have HR : Hid (RowAt W (.slice so n2 sc) n2 (flatV ss)) := hr2.nx hbW
  clear hr1 hn1 hr2 hn2 hr3 hn3 hr4 hn4 hr5 hn5 hW hbW
  go_enter Tryz.func41, Tryz.ntmps41
  go_wp2_with fail
  rw [← HW.out.1]
  go_loopw [6] (fun ix wr => ∃ k : Nat, k ≤ n2 ∧ ix = .int .i64 k ∧ Hid (∀ y ∈ ss.take k, isIdR id y = false) ∧ Hid (Below W.heap.size W wr)) (fun ix _ => n2 - (intOf ix).toNat)
  case atStart => exact ⟨0, Nat.zero_le _, rfl, by intro y hy; simp at hy, Below.refl _ _⟩
  case round =>
    obtain ⟨k, hk, rfl, HT, HBR⟩ := hrel
    obtain ⟨a0, a1, a2, a3, a4, a5, a6, a7, a8, a9, az⟩ := blk10 (blk_nx HW.out.2.1 HBR.out)
    obtain ⟨r0, r1, r2, r3, r4, r5, r6, r7, r8, r9, rz⟩ := blk10 (blk_nx HW.out.2.2.1 HBR.out)
    by_cases hlt : k < n2
    · obtain ⟨⟨x0, x1, x2, x3⟩, hx⟩ : ∃ x, ss[k]? = some x := ⟨_, List.getElem?_eq_getElem (by rw [HLN.out.2.1]; exact hlt)⟩
      obtain ⟨bl, off, hao, hbl, d0, d1, d2, d3⟩ := sv_at (HR.out.nx HBR.out) hx
      subst hao
      simp only at d0 d1 d2 d3
      have hlti : (k : Int) < (n2 : Int) := by omega
      cases hq : (x0 == id) with
      | false =>
        have HN : Hid (∀ y ∈ ss.take (k + 1), isIdR id y = false) := take_next HT.out hx hq
        clear hx
        go_wp2_with fail
        go_roundw
        case rel => exact ⟨k + 1, by omega, by go_num, HN.out, HBR.out⟩
        case measure => simp [intOf]; omega
      | true =>
        have HF : Hid (ss.findIdx? (isIdR id) = some k) := find_hit HT.out hx hq
        clear hx
        go_wp2_with fail
        refine (HCL.out k wr HBR.out).mono ?_
        rintro e w1 ⟨po1, pc1, so1, sc1, wo1, wc1, qo1, tc1, ho1, hc1, rfl, o0, o1, o2, o3, o4, hb1⟩
        have HB1 := hideIt (nx_trans HBR.out hb1)
        obtain ⟨m2, hm2⟩ : ∃ m2, (ss.eraseIdx k).length = m2 := ⟨_, rfl⟩
        have hm2l : m2 ≤ n2 := by
          have h := List.length_eraseIdx_le ss k
          rw [hm2, HLN.out.2.1] at h
          exact h
        rw [HLN.out.1] at o0 ⊢
        rw [hm2] at o1 ⊢
        rw [HLN.out.2.2.1] at o2 ⊢
        rw [HLN.out.2.2.2.1] at o3 ⊢
        rw [HLN.out.2.2.2.2] at o4 ⊢
        obtain ⟨U1, hU⟩ : ∃ U1, U1 = w1.alloc (bWd (.int .i64 bud) (.slice po1 n1 pc1) (.slice so1 m2 sc1) (.slice wo1 n3 wc1) (.slice qo1 n4 tc1) (.bool bg) (.bool bk) (.int .i64 nx) (.int .i64 hb) (.slice ho1 n5 hc1)) := ⟨_, rfl⟩
        have HU : Hid (U1 = w1.alloc (bWd (.int .i64 bud) (.slice po1 n1 pc1) (.slice so1 m2 sc1) (.slice wo1 n3 wc1) (.slice qo1 n4 tc1) (.bool bg) (.bool bk) (.int .i64 nx) (.int .i64 hb) (.slice ho1 n5 hc1)) ∧ Below W.heap.size W U1 ∧ U1.heap[w1.heap.size]? = some (bWd (.int .i64 bud) (.slice po1 n1 pc1) (.slice so1 m2 sc1) (.slice wo1 n3 wc1) (.slice qo1 n4 tc1) (.bool bg) (.bool bk) (.int .i64 nx) (.int .i64 hb) (.slice ho1 n5 hc1))) := ⟨hU, by rw [hU]; exact nx_trans HB1.out (nx_alloc _ _), by rw [hU]; exact heap_alloc_at _ _ rfl⟩
        have hwr : w.heap.size ≤ wr.heap.size := Nat.le_trans HW.out.2.2.2.size HBR.out.size
        have HSV := hideIt (served_any w.heap.size n3 bud po1 n1 pc1 so1 m2 sc1 wo1 n3 wc1 qo1 n4 tc1 bg bk nx hb ho1 n5 hc1 ps (ss.eraseIdx k) ws ts hs U1 (Nat.le_trans HW.out.2.2.2.size HU.out.2.1.size) (by rw [hU]; exact own_mono (own_below o0 (nx_alloc _ _)) hwr) HLN.out.1 hq1 (by rw [hU]; exact own_mono (own_below o1 (nx_alloc _ _)) hwr) hm2 (by omega) (by rw [hU]; exact own_mono (own_below o2 (nx_alloc _ _)) hwr) HLN.out.2.2.1 hq3 (by rw [hU]; exact own_mono (own_below o3 (nx_alloc _ _)) hwr) HLN.out.2.2.2.1 hq4 (by rw [hU]; exact own_mono (own_below o4 (nx_alloc _ _)) hwr) HLN.out.2.2.2.2 hq5 (by rw [HLN.out.2.2.1]; exact Nat.le_refl _) (by omega) hx0 hx1)
        clear hU o0 o1 o2 o3 o4 hb1 hm2 d0 d1 d2 d3
        clear a0 a1 a2 a3 a4 a5 a6 a7 a8 a9 az r0 r1 r2 r3 r4 r5 r6 r7 r8 r9 rz
        go_upto_region 6 with fail
        rw [← HU.out.1]
        obtain ⟨a0, a1, a2, a3, a4, a5, a6, a7, a8, a9, az⟩ := blk10 HU.out.2.2
        go_wp2_with fail
        refine HSV.out.mono ?_
        obtain ⟨⟨z1, z2, z3⟩, hz⟩ : ∃ z, servedR bud ps n3 (ss.eraseIdx k) ws nx = z := ⟨_, rfl⟩
        rw [hz]
        rintro e w2 ⟨po2, pc2, so2, sc2, wo2, wc2, qo2, tc2, ho2, hc2, rfl, o0, o1, o2, o3, o4, hb2⟩
        simp only at o0 o1 o2 o3 o4 ⊢
        have HB2 := hideIt (nx_trans HU.out.2.1 hb2)
        have HO2 := hideIt (And.intro o0 (And.intro o1 (And.intro o2 (And.intro o3 o4))))
        have HZ := hideIt hz
        clear o0 o1 o2 o3 o4 hb2 hz a0 a1 a2 a3 a4 a5 a6 a7 a8 a9 az
        obtain ⟨r0, r1, r2, r3, r4, r5, r6, r7, r8, r9, rz⟩ := blk10 (blk_nx HW.out.2.2.1 HB2.out)
        have HFO : Hid ((((((((((((w2.setCell ⟨w.heap.size + 1, 0, none⟩ (.int .i64 bud)).setCell ⟨w.heap.size + 1, 1, none⟩ (.slice po2 ps.length pc2)).setCell ⟨w.heap.size + 1, 2, none⟩ (.slice so2 z1.length sc2)).setCell ⟨w.heap.size + 1, 3, none⟩ (.slice wo2 z2.length wc2)).setCell ⟨w.heap.size + 1, 4, none⟩ (.slice qo2 ts.length tc2)).setCell ⟨w.heap.size + 1, 5, none⟩ (.bool bg)).setCell ⟨w.heap.size + 1, 6, none⟩ (.bool bk)).setCell ⟨w.heap.size + 1, 7, none⟩ (.int .i64 z3)).setCell ⟨w.heap.size + 1, 8, none⟩ (.int .i64 hb)).setCell ⟨w.heap.size + 1, 9, none⟩ (.slice ho2 hs.length hc2))).ownsRow w.heap.size 70 4 (.slice po2 ps.length pc2) ps.length (flatP ps) ∧ (((((((((((w2.setCell ⟨w.heap.size + 1, 0, none⟩ (.int .i64 bud)).setCell ⟨w.heap.size + 1, 1, none⟩ (.slice po2 ps.length pc2)).setCell ⟨w.heap.size + 1, 2, none⟩ (.slice so2 z1.length sc2)).setCell ⟨w.heap.size + 1, 3, none⟩ (.slice wo2 z2.length wc2)).setCell ⟨w.heap.size + 1, 4, none⟩ (.slice qo2 ts.length tc2)).setCell ⟨w.heap.size + 1, 5, none⟩ (.bool bg)).setCell ⟨w.heap.size + 1, 6, none⟩ (.bool bk)).setCell ⟨w.heap.size + 1, 7, none⟩ (.int .i64 z3)).setCell ⟨w.heap.size + 1, 8, none⟩ (.int .i64 hb)).setCell ⟨w.heap.size + 1, 9, none⟩ (.slice ho2 hs.length hc2))).ownsRow w.heap.size 74 4 (.slice so2 z1.length sc2) z1.length (flatV z1) ∧ (((((((((((w2.setCell ⟨w.heap.size + 1, 0, none⟩ (.int .i64 bud)).setCell ⟨w.heap.size + 1, 1, none⟩ (.slice po2 ps.length pc2)).setCell ⟨w.heap.size + 1, 2, none⟩ (.slice so2 z1.length sc2)).setCell ⟨w.heap.size + 1, 3, none⟩ (.slice wo2 z2.length wc2)).setCell ⟨w.heap.size + 1, 4, none⟩ (.slice qo2 ts.length tc2)).setCell ⟨w.heap.size + 1, 5, none⟩ (.bool bg)).setCell ⟨w.heap.size + 1, 6, none⟩ (.bool bk)).setCell ⟨w.heap.size + 1, 7, none⟩ (.int .i64 z3)).setCell ⟨w.heap.size + 1, 8, none⟩ (.int .i64 hb)).setCell ⟨w.heap.size + 1, 9, none⟩ (.slice ho2 hs.length hc2))).ownsRow w.heap.size 76 2 (.slice wo2 z2.length wc2) z2.length (flatW z2) ∧ (((((((((((w2.setCell ⟨w.heap.size + 1, 0, none⟩ (.int .i64 bud)).setCell ⟨w.heap.size + 1, 1, none⟩ (.slice po2 ps.length pc2)).setCell ⟨w.heap.size + 1, 2, none⟩ (.slice so2 z1.length sc2)).setCell ⟨w.heap.size + 1, 3, none⟩ (.slice wo2 z2.length wc2)).setCell ⟨w.heap.size + 1, 4, none⟩ (.slice qo2 ts.length tc2)).setCell ⟨w.heap.size + 1, 5, none⟩ (.bool bg)).setCell ⟨w.heap.size + 1, 6, none⟩ (.bool bk)).setCell ⟨w.heap.size + 1, 7, none⟩ (.int .i64 z3)).setCell ⟨w.heap.size + 1, 8, none⟩ (.int .i64 hb)).setCell ⟨w.heap.size + 1, 9, none⟩ (.slice ho2 hs.length hc2))).ownsRow w.heap.size 72 3 (.slice qo2 ts.length tc2) ts.length (flatT ts) ∧ (((((((((((w2.setCell ⟨w.heap.size + 1, 0, none⟩ (.int .i64 bud)).setCell ⟨w.heap.size + 1, 1, none⟩ (.slice po2 ps.length pc2)).setCell ⟨w.heap.size + 1, 2, none⟩ (.slice so2 z1.length sc2)).setCell ⟨w.heap.size + 1, 3, none⟩ (.slice wo2 z2.length wc2)).setCell ⟨w.heap.size + 1, 4, none⟩ (.slice qo2 ts.length tc2)).setCell ⟨w.heap.size + 1, 5, none⟩ (.bool bg)).setCell ⟨w.heap.size + 1, 6, none⟩ (.bool bk)).setCell ⟨w.heap.size + 1, 7, none⟩ (.int .i64 z3)).setCell ⟨w.heap.size + 1, 8, none⟩ (.int .i64 hb)).setCell ⟨w.heap.size + 1, 9, none⟩ (.slice ho2 hs.length hc2))).ownsRow w.heap.size 70 4 (.slice ho2 hs.length hc2) hs.length (flatP hs)) := ⟨own_st10 HO2.out.1 (own_ne10 HO2.out.1 (blk_nx HW.out.2.2.1 HB2.out) (by decide)) _ _ _ _ _ _ _ _ _ _, own_st10 HO2.out.2.1 (own_ne10 HO2.out.2.1 (blk_nx HW.out.2.2.1 HB2.out) (by decide)) _ _ _ _ _ _ _ _ _ _, own_st10 HO2.out.2.2.1 (own_ne10 HO2.out.2.2.1 (blk_nx HW.out.2.2.1 HB2.out) (by decide)) _ _ _ _ _ _ _ _ _ _, own_st10 HO2.out.2.2.2.1 (own_ne10 HO2.out.2.2.2.1 (blk_nx HW.out.2.2.1 HB2.out) (by decide)) _ _ _ _ _ _ _ _ _ _, own_st10 HO2.out.2.2.2.2 (own_ne10 HO2.out.2.2.2.2 (blk_nx HW.out.2.2.1 HB2.out) (by decide)) _ _ _ _ _ _ _ _ _ _⟩
        have HFW : Hid ((((((((((((w2.setCell ⟨w.heap.size + 1, 0, none⟩ (.int .i64 bud)).setCell ⟨w.heap.size + 1, 1, none⟩ (.slice po2 ps.length pc2)).setCell ⟨w.heap.size + 1, 2, none⟩ (.slice so2 z1.length sc2)).setCell ⟨w.heap.size + 1, 3, none⟩ (.slice wo2 z2.length wc2)).setCell ⟨w.heap.size + 1, 4, none⟩ (.slice qo2 ts.length tc2)).setCell ⟨w.heap.size + 1, 5, none⟩ (.bool bg)).setCell ⟨w.heap.size + 1, 6, none⟩ (.bool bk)).setCell ⟨w.heap.size + 1, 7, none⟩ (.int .i64 z3)).setCell ⟨w.heap.size + 1, 8, none⟩ (.int .i64 hb)).setCell ⟨w.heap.size + 1, 9, none⟩ (.slice ho2 hs.length hc2))).heap[w.heap.size + 1]? = some (bWd (.int .i64 bud) (.slice po2 ps.length pc2) (.slice so2 z1.length sc2) (.slice wo2 z2.length wc2) (.slice qo2 ts.length tc2) (.bool bg) (.bool bk) (.int .i64 z3) (.int .i64 hb) (.slice ho2 hs.length hc2))) := st10_heap (blk_nx HW.out.2.2.1 HB2.out) _ _ _ _ _ _ _ _ _ _
        have HFB : Hid (Below w.heap.size w (((((((((((w2.setCell ⟨w.heap.size + 1, 0, none⟩ (.int .i64 bud)).setCell ⟨w.heap.size + 1, 1, none⟩ (.slice po2 ps.length pc2)).setCell ⟨w.heap.size + 1, 2, none⟩ (.slice so2 z1.length sc2)).setCell ⟨w.heap.size + 1, 3, none⟩ (.slice wo2 z2.length wc2)).setCell ⟨w.heap.size + 1, 4, none⟩ (.slice qo2 ts.length tc2)).setCell ⟨w.heap.size + 1, 5, none⟩ (.bool bg)).setCell ⟨w.heap.size + 1, 6, none⟩ (.bool bk)).setCell ⟨w.heap.size + 1, 7, none⟩ (.int .i64 z3)).setCell ⟨w.heap.size + 1, 8, none⟩ (.int .i64 hb)).setCell ⟨w.heap.size + 1, 9, none⟩ (.slice ho2 hs.length hc2)))) := st10_bel (nx_trans HW.out.2.2.2 HB2.out) (by omega) _ _ _ _ _ _ _ _ _ _
        go_wp2_with fail
        obtain ⟨FW, hFW⟩ : ∃ FW, ((((((((((w2.setCell ⟨w.heap.size + 1, 0, none⟩ (.int .i64 bud)).setCell ⟨w.heap.size + 1, 1, none⟩ (.slice po2 ps.length pc2)).setCell ⟨w.heap.size + 1, 2, none⟩ (.slice so2 z1.length sc2)).setCell ⟨w.heap.size + 1, 3, none⟩ (.slice wo2 z2.length wc2)).setCell ⟨w.heap.size + 1, 4, none⟩ (.slice qo2 ts.length tc2)).setCell ⟨w.heap.size + 1, 5, none⟩ (.bool bg)).setCell ⟨w.heap.size + 1, 6, none⟩ (.bool bk)).setCell ⟨w.heap.size + 1, 7, none⟩ (.int .i64 z3)).setCell ⟨w.heap.size + 1, 8, none⟩ (.int .i64 hb)).setCell ⟨w.heap.size + 1, 9, none⟩ (.slice ho2 hs.length hc2)) = FW := ⟨_, rfl⟩
        rw [hFW] at HFW HFB HFO ⊢
        obtain ⟨f0, f1, f2, f3, f4, f5, f6, f7, f8, f9, fz⟩ := blk10 HFW.out
        clear hFW
        refine bodyPost_ret (v := .tuple #[.agg #[.int .i64 bud, .slice po2 ps.length pc2, .slice so2 z1.length sc2, .slice wo2 z2.length wc2, .slice qo2 ts.length tc2, .bool bg, .bool bk, .int .i64 z3, .int .i64 hb, .slice ho2 hs.length hc2], .int .i64 0]) (by simp [results, Tryz.results41, go_sem, f0, f1, f2, f3, f4, f5, f6, f7, f8, f9]) rfl ?_
        unfold CrashW
        rw [HF.out]
        refine ⟨_, rfl, ?_⟩
        rw [HLN.out.2.2.1, HZ.out]
        exact ⟨po2, pc2, so2, sc2, wo2, wc2, qo2, tc2, ho2, hc2, rfl, HFO.out.1, HFO.out.2.1, HFO.out.2.2.1, HFO.out.2.2.2.1, HFO.out.2.2.2.2, HFB.out⟩
    · have HF : Hid (ss.findIdx? (isIdR id) = none) := find_miss (fun y hy => HT.out y (by rw [List.take_of_length_le (by rw [HLN.out.2.1]; omega)]; exact hy))
      have HFW : Hid ((((((((((((wr.setCell ⟨w.heap.size + 1, 0, none⟩ (.int .i64 bud)).setCell ⟨w.heap.size + 1, 1, none⟩ (.slice po n1 pc)).setCell ⟨w.heap.size + 1, 2, none⟩ (.slice so n2 sc)).setCell ⟨w.heap.size + 1, 3, none⟩ (.slice wo n3 wc)).setCell ⟨w.heap.size + 1, 4, none⟩ (.slice qo n4 tc)).setCell ⟨w.heap.size + 1, 5, none⟩ (.bool bg)).setCell ⟨w.heap.size + 1, 6, none⟩ (.bool bk)).setCell ⟨w.heap.size + 1, 7, none⟩ (.int .i64 nx)).setCell ⟨w.heap.size + 1, 8, none⟩ (.int .i64 hb)).setCell ⟨w.heap.size + 1, 9, none⟩ (.slice ho n5 hc))).heap[w.heap.size + 1]? = some (bWd (.int .i64 bud) (.slice po n1 pc) (.slice so n2 sc) (.slice wo n3 wc) (.slice qo n4 tc) (.bool bg) (.bool bk) (.int .i64 nx) (.int .i64 hb) (.slice ho n5 hc))) := st10_heap (blk_nx HW.out.2.2.1 HBR.out) _ _ _ _ _ _ _ _ _ _
      have HFB : Hid (Below w.heap.size w (((((((((((wr.setCell ⟨w.heap.size + 1, 0, none⟩ (.int .i64 bud)).setCell ⟨w.heap.size + 1, 1, none⟩ (.slice po n1 pc)).setCell ⟨w.heap.size + 1, 2, none⟩ (.slice so n2 sc)).setCell ⟨w.heap.size + 1, 3, none⟩ (.slice wo n3 wc)).setCell ⟨w.heap.size + 1, 4, none⟩ (.slice qo n4 tc)).setCell ⟨w.heap.size + 1, 5, none⟩ (.bool bg)).setCell ⟨w.heap.size + 1, 6, none⟩ (.bool bk)).setCell ⟨w.heap.size + 1, 7, none⟩ (.int .i64 nx)).setCell ⟨w.heap.size + 1, 8, none⟩ (.int .i64 hb)).setCell ⟨w.heap.size + 1, 9, none⟩ (.slice ho n5 hc)))) := st10_bel (nx_trans HW.out.2.2.2 HBR.out) (by omega) _ _ _ _ _ _ _ _ _ _
      go_wp2_with fail
      obtain ⟨FW, hFW⟩ : ∃ FW, ((((((((((wr.setCell ⟨w.heap.size + 1, 0, none⟩ (.int .i64 bud)).setCell ⟨w.heap.size + 1, 1, none⟩ (.slice po n1 pc)).setCell ⟨w.heap.size + 1, 2, none⟩ (.slice so n2 sc)).setCell ⟨w.heap.size + 1, 3, none⟩ (.slice wo n3 wc)).setCell ⟨w.heap.size + 1, 4, none⟩ (.slice qo n4 tc)).setCell ⟨w.heap.size + 1, 5, none⟩ (.bool bg)).setCell ⟨w.heap.size + 1, 6, none⟩ (.bool bk)).setCell ⟨w.heap.size + 1, 7, none⟩ (.int .i64 nx)).setCell ⟨w.heap.size + 1, 8, none⟩ (.int .i64 hb)).setCell ⟨w.heap.size + 1, 9, none⟩ (.slice ho n5 hc)) = FW := ⟨_, rfl⟩
      rw [hFW] at HFW HFB ⊢
      obtain ⟨f0, f1, f2, f3, f4, f5, f6, f7, f8, f9, fz⟩ := blk10 HFW.out
      clear hFW
      refine bodyPost_ret (v := .tuple #[.agg #[.int .i64 bud, .slice po n1 pc, .slice so n2 sc, .slice wo n3 wc, .slice qo n4 tc, .bool bg, .bool bk, .int .i64 nx, .int .i64 hb, .slice ho n5 hc], .int .i64 15]) (by simp [results, Tryz.results41, go_sem, f0, f1, f2, f3, f4, f5, f6, f7, f8, f9]) rfl ?_
      unfold CrashW
      rw [HF.out]
      exact ⟨rfl, HFB.out⟩
end Lw
end Go.Proofs.YtmmmjpkhnbfnbaaGreat
