import Derived.Test.YtmmmjpkhnbfnbaaGreatMgV
import Derived.Deep.RegionLaw
import Derived.Deep.AppendLies
namespace Go.Proofs.YtmmmjpkhnbfnbaaGreat
open Go.RowKit
namespace Lw
open Co

/-- what comes out: a World of lists of its own -/
def GaveW (w w' : World) (bud : Int) (ps : List Pl) (ss : List Srv) (ws : List Wtr) (ts : List Stp) (bg bk : Bool) (nx hb : Int) (hs : List Pl) (e : Ending) : Prop :=
  ∃ po' pc' so' sc' wo' wc' qo' tc' ho' hc', e = .returned (.agg #[.int .i64 bud, .slice po' ps.length pc', .slice so' ss.length sc', .slice wo' ws.length wc', .slice qo' ts.length tc', .bool bg, .bool bk, .int .i64 nx, .int .i64 hb, .slice ho' hs.length hc']) ∧
    w'.ownsRow w.heap.size 70 4 (.slice po' ps.length pc') ps.length (flatP ps) ∧ w'.ownsRow w.heap.size 74 4 (.slice so' ss.length sc') ss.length (flatV ss) ∧ w'.ownsRow w.heap.size 76 2 (.slice wo' ws.length wc') ws.length (flatW ws) ∧ w'.ownsRow w.heap.size 72 3 (.slice qo' ts.length tc') ts.length (flatT ts) ∧ w'.ownsRow w.heap.size 70 4 (.slice ho' hs.length hc') hs.length (flatP hs) ∧ Below w.heap.size w w'
theorem erase_take {α : Type} {l : List α} {k i : Nat} {x : α} (hx : l[k]? = some x) : (l.take (k + 1)).eraseIdx i = if k = i then (l.take k).eraseIdx i else (l.take k).eraseIdx i ++ [x] := by
  obtain ⟨hk, e⟩ := List.getElem?_eq_some_iff.1 hx
  have hl : (l.take k).length = k := by rw [List.length_take]; omega
  rw [List.take_succ_eq_append_getElem hk, e]
  by_cases h : k = i
  · subst h
    rw [if_pos rfl, List.eraseIdx_append_of_length_le (by omega), hl, Nat.sub_self, List.eraseIdx_of_length_le (by omega : (l.take k).length ≤ k)]
    simp
  · rw [if_neg h]
    by_cases h2 : i < k
    · rw [List.eraseIdx_append_of_lt_length (by omega)]
    · rw [List.eraseIdx_of_length_le (by rw [List.length_append, hl]; simp; omega), List.eraseIdx_of_length_le (by omega)]

set_option maxRecDepth 20000 in
set_option maxHeartbeats 8000000 in
theorem closed_any (bud : Int) (po : Option Addr) (n1 pc : Nat) (so : Option Addr) (n2 sc : Nat) (wo : Option Addr) (n3 wc : Nat) (qo : Option Addr) (n4 tc : Nat) (bg bk : Bool) (nx hb : Int) (ho : Option Addr) (n5 hc : Nat) (ps : List Pl) (ss : List Srv) (ws : List Wtr) (ts : List Stp) (hs : List Pl) (w : World) (i : Nat) (hr1 : RowAt w (.slice po n1 pc) n1 (flatP ps)) (hn1 : ps.length = n1) (hq1 : n1 ≤ 1099511627776) (hr2 : RowAt w (.slice so n2 sc) n2 (flatV ss)) (hn2 : ss.length = n2) (hq2 : n2 ≤ 1099511627776) (hr3 : RowAt w (.slice wo n3 wc) n3 (flatW ws)) (hn3 : ws.length = n3) (hq3 : n3 ≤ 1099511627776) (hr4 : RowAt w (.slice qo n4 tc) n4 (flatT ts)) (hn4 : ts.length = n4) (hq4 : n4 ≤ 1099511627776) (hr5 : RowAt w (.slice ho n5 hc) n5 (flatP hs)) (hn5 : hs.length = n5) (hq5 : n5 ≤ 1099511627776) :
    Calls Tryz.prog 71 #[.agg #[.int .i64 bud, .slice po n1 pc, .slice so n2 sc, .slice wo n3 wc, .slice qo n4 tc, .bool bg, .bool bk, .int .i64 nx, .int .i64 hb, .slice ho n5 hc], .int .i64 i] w fun e w' => GaveW w w' bud ps (ss.eraseIdx i) ws ts bg bk nx hb hs e := by
  obtain ⟨W, hW⟩ : ∃ W, W = (w.alloc (bWd (.int .i64 bud) (.slice po n1 pc) (.slice so n2 sc) (.slice wo n3 wc) (.slice qo n4 tc) (.bool bg) (.bool bk) (.int .i64 nx) (.int .i64 hb) (.slice ho n5 hc))).alloc zW := ⟨_, rfl⟩
  have hbW : Below w.heap.size w W := by rw [hW]; exact nx_trans (nx_alloc _ _) (nx_alloc _ _)
  have HW : Hid (W = (w.alloc (bWd (.int .i64 bud) (.slice po n1 pc) (.slice so n2 sc) (.slice wo n3 wc) (.slice qo n4 tc) (.bool bg) (.bool bk) (.int .i64 nx) (.int .i64 hb) (.slice ho n5 hc))).alloc zW ∧ W.heap[w.heap.size]? = some (bWd (.int .i64 bud) (.slice po n1 pc) (.slice so n2 sc) (.slice wo n3 wc) (.slice qo n4 tc) (.bool bg) (.bool bk) (.int .i64 nx) (.int .i64 hb) (.slice ho n5 hc)) ∧ W.heap[w.heap.size + 1]? = some zW ∧ W.heap.size = w.heap.size + 2 ∧ Below w.heap.size w W) := by
    refine ⟨hW, ?_, ?_, ?_, hbW⟩
    · rw [hW]; exact (heap_alloc_lt _ _ (by simp)).trans (heap_alloc_at _ _ rfl)
    · rw [hW]; exact heap_alloc_at _ _ (by simp)
    · rw [hW]; simp
  have HCO := hideIt (copied_any bud po n1 pc so n2 sc wo n3 wc qo n4 tc bg bk nx hb ho n5 hc ps ss ws ts hs W (hr1.nx hbW) hn1 hq1 (hr2.nx hbW) hn2 hq2 (hr3.nx hbW) hn3 hq3 (hr4.nx hbW) hn4 hq4 (hr5.nx hbW) hn5 hq5)
  have HR : Hid (RowAt w (.slice so n2 sc) n2 (flatV ss) ∧ ss.length = n2) := ⟨hr2, hn2⟩
  have HLN : Hid (ps.length = n1 ∧ ss.length = n2 ∧ ws.length = n3 ∧ ts.length = n4 ∧ hs.length = n5) := ⟨hn1, hn2, hn3, hn4, hn5⟩
  clear hr1 hn1 hr2 hn2 hr3 hn3 hr4 hn4 hr5 hn5 hW hbW
  go_enter Tryz.func71, Tryz.ntmps71
  go_wp2_with fail
  rw [← HW.out.1]
  refine HCO.out.mono ?_
  rintro e w1 ⟨po', pc', so', sc', wo', wc', qo', tc', ho', hc', rfl, o0, o1, o2, o3, o4, hb1⟩
  obtain ⟨g3, hg3⟩ : ∃ g3, w1.heap.size = g3 := ⟨_, rfl⟩
  obtain ⟨U, hU⟩ : ∃ U, U = w1.alloc (bWd (.int .i64 bud) (.slice po' n1 pc') (.slice none 0 0) (.slice wo' n3 wc') (.slice qo' n4 tc') (.bool bg) (.bool bk) (.int .i64 nx) (.int .i64 hb) (.slice ho' n5 hc')) := ⟨_, rfl⟩
  have HU : Hid (U = w1.alloc (bWd (.int .i64 bud) (.slice po' n1 pc') (.slice none 0 0) (.slice wo' n3 wc') (.slice qo' n4 tc') (.bool bg) (.bool bk) (.int .i64 nx) (.int .i64 hb) (.slice ho' n5 hc')) ∧ CP w (bWd (.int .i64 bud) (.slice po n1 pc) (.slice so n2 sc) (.slice wo n3 wc) (.slice qo n4 tc) (.bool bg) (.bool bk) (.int .i64 nx) (.int .i64 hb) (.slice ho n5 hc)) g3 (bWd (.int .i64 bud) (.slice po' n1 pc') (.slice none 0 0) (.slice wo' n3 wc') (.slice qo' n4 tc') (.bool bg) (.bool bk) (.int .i64 nx) (.int .i64 hb) (.slice ho' n5 hc')) U ∧ (U.ownsRow w.heap.size 70 4 (.slice po' n1 pc') n1 (flatP ps) ∧ (Value.slice po' n1 pc').ownBlock ≠ some g3) ∧ (U.ownsRow w.heap.size 76 2 (.slice wo' n3 wc') n3 (flatW ws) ∧ (Value.slice wo' n3 wc').ownBlock ≠ some g3) ∧ (U.ownsRow w.heap.size 72 3 (.slice qo' n4 tc') n4 (flatT ts) ∧ (Value.slice qo' n4 tc').ownBlock ≠ some g3) ∧ (U.ownsRow w.heap.size 70 4 (.slice ho' n5 hc') n5 (flatP hs) ∧ (Value.slice ho' n5 hc').ownBlock ≠ some g3)) := by
    have hzW := HW.out.2.2.2.1
    have hz1 := hb1.size
    refine ⟨hU, ⟨?_, ?_, ?_, ?_, by omega⟩, ⟨?_, fun e => by have := (o0.lt g3 e).2; omega⟩, ⟨?_, fun e => by have := (o2.lt g3 e).2; omega⟩, ⟨?_, fun e => by have := (o3.lt g3 e).2; omega⟩, ⟨?_, fun e => by have := (o4.lt g3 e).2; omega⟩⟩
    · rw [hU]; exact blk_nx (blk_nx HW.out.2.1 hb1) (nx_alloc _ _)
    · rw [hU]; exact blk_nx (blk_nx HW.out.2.2.1 hb1) (nx_alloc _ _)
    · rw [hU]; exact heap_alloc_at _ _ hg3.symm
    · rw [hU]; exact nx_trans HW.out.2.2.2.2 (nx_trans hb1 (nx_alloc _ _))
    · rw [hU]; exact own_mono (own_below o0 (nx_alloc _ _)) HW.out.2.2.2.2.size
    · rw [hU]; exact own_mono (own_below o2 (nx_alloc _ _)) HW.out.2.2.2.2.size
    · rw [hU]; exact own_mono (own_below o3 (nx_alloc _ _)) HW.out.2.2.2.2.size
    · rw [hU]; exact own_mono (own_below o4 (nx_alloc _ _)) HW.out.2.2.2.2.size
  have HG3 := hideIt hg3
  clear o0 o1 o2 o3 o4 hb1 hU hg3
  go_upto_region 3 with fail
  rw [← HU.out.1, HG3.out]
  have HCP := hideIt HU.out.2.1
  go_wp2_with fail
  go_loopw [6] (fun ix wr => ∃ (k j : Nat) (so' : Option Addr) (sc' : Nat), k ≤ n2 ∧ j ≤ k ∧ ix = .int .i64 k ∧ Hid (wr.heap[g3]? = some (bWd (.int .i64 bud) (.slice po' n1 pc') (.slice so' j sc') (.slice wo' n3 wc') (.slice qo' n4 tc') (.bool bg) (.bool bk) (.int .i64 nx) (.int .i64 hb) (.slice ho' n5 hc')) ∧ ((ss.take k).eraseIdx i).length = j ∧ wr.ownsRow U.heap.size 74 4 (.slice so' j sc') j (flatV ((ss.take k).eraseIdx i)) ∧ Chg (fun y => y = g3) U wr)) (fun ix _ => n2 - (intOf ix).toNat)
  case atStart => exact ⟨0, 0, none, 0, Nat.zero_le _, Nat.le_refl _, rfl, HCP.out.h2, by simp, by simp only [List.take_zero, List.eraseIdx_nil]; exact World.ownsRow_nil _ _ _ _, Chg.refl _ _⟩
  case round =>
    obtain ⟨k, j, so', sc', hk, hj, rfl, HS⟩ := hrel
    have HCR := hideIt (HCP.out.chg HS.out.2.2.2 HS.out.1)
    have hgU : g3 < U.heap.size := (Array.getElem?_eq_some_iff.1 HCP.out.h2).1
    have hUr := HS.out.2.2.2.size
    have hlo := HCP.out.lo
    obtain ⟨a0, a1, a2, a3, a4, a5, a6, a7, a8, a9, az⟩ := blk10 HCR.out.h0
    by_cases hlt : k < n2
    · obtain ⟨⟨x0, x1, x2, x3⟩, hx⟩ : ∃ x, ss[k]? = some x := ⟨_, List.getElem?_eq_getElem (by rw [HR.out.2]; exact hlt)⟩
      have HX := hideIt (erase_take (i := i) hx)
      obtain ⟨bl, off, hao, hbl, d0, d1, d2, d3⟩ := sv_at HR.out.1 hx
      subst hao
      have hlti : (k : Int) < (n2 : Int) := by omega
      have h0i : (0 : Int) ≤ (k : Int) := by omega
      clear hx
      by_cases hki : k = i
      · have HN : Hid (((ss.take (k + 1)).eraseIdx i) = ((ss.take k).eraseIdx i)) := by show _ = _; rw [HX.out, if_pos hki]
        have hb1 : ((k : Int) != (i : Int)) = false := by simp [hki]
        have hb2 : (k != i) = false := by simp [hki]
        clear hki HX d0 d1 d2 d3
        go_wp2_with fail
        go_roundw
        case rel => exact ⟨k + 1, j, so', sc', by omega, by omega, by go_num, by rw [HN.out]; exact HS.out⟩
        case measure => simp [intOf]; omega
      · have HN : Hid (((ss.take (k + 1)).eraseIdx i) = ((ss.take k).eraseIdx i) ++ [⟨x0, x1, x2, x3⟩]) := by show _ = _; rw [HX.out, if_neg hki]
        have hb1 : ((k : Int) != (i : Int)) = true := by simp; omega
        have hb2 : (k != i) = true := by simp [hki]
        have HK : Hid (∀ w1 : World, (∀ b, b < wr.heap.size → some b ≠ (Value.slice so' j sc').ownBlock → w1.heap[b]? = wr.heap[b]?) → w1.cell? ⟨g3, 2, none⟩ = some (.slice so' j sc') ∧ w1.frozen? ⟨g3, 2, none⟩ = false ∧ w1.cell? ⟨w.heap.size, 2, none⟩ = some (.slice (some ⟨bl, off, none⟩) n2 sc) ∧ w1.cell? ⟨bl, off + k * 4, none⟩ = some (.int .i64 x0) ∧ w1.cell? ⟨bl, off + k * 4 + 1, none⟩ = some (.string x1) ∧ w1.cell? ⟨bl, off + k * 4 + 2, none⟩ = some (.int .i64 x2) ∧ w1.cell? ⟨bl, off + k * 4 + 3, none⟩ = some (.int .i64 x3)) := by
          intro w1 hw
          have h := rk HS.out.2.2.2 HS.out.2.2.1 hw
          have e3 := (h g3 hgU).trans HS.out.1
          have e0 := (h w.heap.size (by omega)).trans HCR.out.h0
          have eb : w1.heap[bl]? = w.heap[bl]? := (h bl (by omega)).trans (HCR.out.bel.block bl hbl)
          exact ⟨(blk10 e3).2.2.1, (blk10 e3).2.2.2.2.2.2.2.2.2.2 2, (blk10 e0).2.2.1, (World.cell?_of_block eb).trans d0, (World.cell?_of_block eb).trans d1, (World.cell?_of_block eb).trans d2, (World.cell?_of_block eb).trans d3⟩
        clear hki HX a0 a1 a2 a3 a4 a5 a6 a7 a8 a9 az d0 d1 d2 d3
        obtain ⟨p0, p1, p2, p3, p4, p5, p6⟩ := HK.out wr (fun _ _ _ => rfl)
        have hownd := HS.out.2.2.1
        have sA : ∀ o, (wr.alloc o).cell? ⟨g3, 2, none⟩ = some (.slice so' j sc') := fun o => (HK.out (wr.alloc o) (fun j hj _ => heap_alloc_lt' _ _ hj)).1
        obtain ⟨t0, hi, hz0, hz1, hz2⟩ := info_parts infr_V
        go_upto_region 7 with fail
        go_region_law
          ((refine step_append_lies _ (by rfl) (.tmp 24) (.tmp 31) 32 (by rfl) U.heap.size 74 t0 _ 4 40 Tryz.underlying32 hi hz0 hz1 hz2 (by rfl) (by decide) _ j (flatV ((ss.take k).eraseIdx i)) (by rfl) (hownd.alloc _) ⟨wr.heap.size, 0, none⟩ 1 1 [.int .i64 x0, .string x1, .int .i64 x2, .int .i64 x3] (by rfl) (by rfl) (cells_new _ [.int .i64 x0, .string x1, .int .i64 x2, .int .i64 x3] _) (by intro u hu; simp at hu; rcases hu with rfl | rfl | rfl | rfl <;> rfl) (by omega) (by unfold maxLen; omega) (by omega) (by simp; omega) (wr.heap.size + 1) (by simp) ?_; intro g6 cap6 w6 hown6 hgrow6 hat6 hlt6; obtain ⟨q0, q1, _⟩ := HK.out w6 (fun j hj hne => (hgrow6.block j (by simp; omega) hne).trans (heap_alloc_lt' _ _ hj))))
        all_goals
          have HJ6 : Hid ((w6.setCell ⟨g3, 2, none⟩ (.slice (some ⟨g6, 0, none⟩) (j + 1) cap6)).heap[g3]? = some (bWd (.int .i64 bud) (.slice po' n1 pc') (.slice (some ⟨g6, 0, none⟩) (j + 1) cap6) (.slice wo' n3 wc') (.slice qo' n4 tc') (.bool bg) (.bool bk) (.int .i64 nx) (.int .i64 hb) (.slice ho' n5 hc')) ∧ ((ss.take (k + 1)).eraseIdx i).length = j + 1 ∧ (w6.setCell ⟨g3, 2, none⟩ (.slice (some ⟨g6, 0, none⟩) (j + 1) cap6)).ownsRow U.heap.size 74 4 (.slice (some ⟨g6, 0, none⟩) (j + 1) cap6) (j + 1) (flatV ((ss.take (k + 1)).eraseIdx i)) ∧ Chg (fun y => y = g3) U (w6.setCell ⟨g3, 2, none⟩ (.slice (some ⟨g6, 0, none⟩) (j + 1) cap6))) := by
            refine ⟨set10_2 ((rnd_low HS.out.2.2.2.drew hownd hgrow6 g3 hgU).trans HS.out.1) _, by rw [HN.out]; simp [HS.out.2.1], ?_, rnd_chg HS.out.2.2.2.drew hownd hgrow6⟩
            rw [HN.out]
            unfold flatV
            rw [List.flatMap_append]
            exact ownsRow_setCell_below hown6 hgU _
          clear hown6 hgrow6 hat6 q0 q1 p0 p1 p2 p3 p4 p5 p6 sA hownd
          go_wp2_with fail
          go_roundw
          case rel => exact ⟨k + 1, j + 1, some ⟨g6, 0, none⟩, cap6, by omega, by omega, by go_num, HJ6.out⟩
          case measure => simp [intOf]; omega
    · have hkn : k = n2 := by omega
      have HOW : Hid (wr.ownsRow w.heap.size 74 4 (.slice so' j sc') j (flatV (ss.eraseIdx i)) ∧ (ss.eraseIdx i).length = j) := by
        have h2 := HS.out.2.2.1
        have h3 := HS.out.2.1
        rw [hkn, List.take_of_length_le (by rw [HR.out.2]; exact Nat.le_refl _)] at h2 h3
        exact ⟨own_mono h2 HCP.out.bel.size, h3⟩
      have HO0 : Hid (wr.ownsRow w.heap.size 70 4 (.slice po' n1 pc') n1 (flatP ps)) := own_chg HU.out.2.2.1.1 HS.out.2.2.2 HU.out.2.2.1.2
      have HO2 : Hid (wr.ownsRow w.heap.size 76 2 (.slice wo' n3 wc') n3 (flatW ws)) := own_chg HU.out.2.2.2.1.1 HS.out.2.2.2 HU.out.2.2.2.1.2
      have HO3 : Hid (wr.ownsRow w.heap.size 72 3 (.slice qo' n4 tc') n4 (flatT ts)) := own_chg HU.out.2.2.2.2.1.1 HS.out.2.2.2 HU.out.2.2.2.2.1.2
      have HO4 : Hid (wr.ownsRow w.heap.size 70 4 (.slice ho' n5 hc') n5 (flatP hs)) := own_chg HU.out.2.2.2.2.2.1 HS.out.2.2.2 HU.out.2.2.2.2.2.2
      clear a0 a1 a2 a3 a4 a5 a6 a7 a8 a9 az hkn
      obtain ⟨a0, a1, a2, a3, a4, a5, a6, a7, a8, a9, az⟩ := blk10 HCR.out.h0
      obtain ⟨e0, e1, e2, e3, e4, e5, e6, e7, e8, e9, ez⟩ := blk10 HCR.out.h2
      obtain ⟨r0, r1, r2, r3, r4, r5, r6, r7, r8, r9, rz⟩ := blk10 HCR.out.h1
      have HFW : Hid ((((((((((((wr.setCell ⟨w.heap.size + 1, 0, none⟩ (.int .i64 bud)).setCell ⟨w.heap.size + 1, 1, none⟩ (.slice po' n1 pc')).setCell ⟨w.heap.size + 1, 2, none⟩ (.slice so' j sc')).setCell ⟨w.heap.size + 1, 3, none⟩ (.slice wo' n3 wc')).setCell ⟨w.heap.size + 1, 4, none⟩ (.slice qo' n4 tc')).setCell ⟨w.heap.size + 1, 5, none⟩ (.bool bg)).setCell ⟨w.heap.size + 1, 6, none⟩ (.bool bk)).setCell ⟨w.heap.size + 1, 7, none⟩ (.int .i64 nx)).setCell ⟨w.heap.size + 1, 8, none⟩ (.int .i64 hb)).setCell ⟨w.heap.size + 1, 9, none⟩ (.slice ho' n5 hc'))).heap[w.heap.size + 1]? = some (bWd (.int .i64 bud) (.slice po' n1 pc') (.slice so' j sc') (.slice wo' n3 wc') (.slice qo' n4 tc') (.bool bg) (.bool bk) (.int .i64 nx) (.int .i64 hb) (.slice ho' n5 hc'))) := st10_heap HCR.out.h1 _ _ _ _ _ _ _ _ _ _
      have HFB : Hid (Below w.heap.size w (((((((((((wr.setCell ⟨w.heap.size + 1, 0, none⟩ (.int .i64 bud)).setCell ⟨w.heap.size + 1, 1, none⟩ (.slice po' n1 pc')).setCell ⟨w.heap.size + 1, 2, none⟩ (.slice so' j sc')).setCell ⟨w.heap.size + 1, 3, none⟩ (.slice wo' n3 wc')).setCell ⟨w.heap.size + 1, 4, none⟩ (.slice qo' n4 tc')).setCell ⟨w.heap.size + 1, 5, none⟩ (.bool bg)).setCell ⟨w.heap.size + 1, 6, none⟩ (.bool bk)).setCell ⟨w.heap.size + 1, 7, none⟩ (.int .i64 nx)).setCell ⟨w.heap.size + 1, 8, none⟩ (.int .i64 hb)).setCell ⟨w.heap.size + 1, 9, none⟩ (.slice ho' n5 hc')))) := st10_bel HCR.out.bel (by omega) _ _ _ _ _ _ _ _ _ _
      have HFO : Hid ((((((((((((wr.setCell ⟨w.heap.size + 1, 0, none⟩ (.int .i64 bud)).setCell ⟨w.heap.size + 1, 1, none⟩ (.slice po' n1 pc')).setCell ⟨w.heap.size + 1, 2, none⟩ (.slice so' j sc')).setCell ⟨w.heap.size + 1, 3, none⟩ (.slice wo' n3 wc')).setCell ⟨w.heap.size + 1, 4, none⟩ (.slice qo' n4 tc')).setCell ⟨w.heap.size + 1, 5, none⟩ (.bool bg)).setCell ⟨w.heap.size + 1, 6, none⟩ (.bool bk)).setCell ⟨w.heap.size + 1, 7, none⟩ (.int .i64 nx)).setCell ⟨w.heap.size + 1, 8, none⟩ (.int .i64 hb)).setCell ⟨w.heap.size + 1, 9, none⟩ (.slice ho' n5 hc'))).ownsRow w.heap.size 70 4 (.slice po' n1 pc') n1 (flatP ps) ∧ (((((((((((wr.setCell ⟨w.heap.size + 1, 0, none⟩ (.int .i64 bud)).setCell ⟨w.heap.size + 1, 1, none⟩ (.slice po' n1 pc')).setCell ⟨w.heap.size + 1, 2, none⟩ (.slice so' j sc')).setCell ⟨w.heap.size + 1, 3, none⟩ (.slice wo' n3 wc')).setCell ⟨w.heap.size + 1, 4, none⟩ (.slice qo' n4 tc')).setCell ⟨w.heap.size + 1, 5, none⟩ (.bool bg)).setCell ⟨w.heap.size + 1, 6, none⟩ (.bool bk)).setCell ⟨w.heap.size + 1, 7, none⟩ (.int .i64 nx)).setCell ⟨w.heap.size + 1, 8, none⟩ (.int .i64 hb)).setCell ⟨w.heap.size + 1, 9, none⟩ (.slice ho' n5 hc'))).ownsRow w.heap.size 74 4 (.slice so' j sc') j (flatV (ss.eraseIdx i)) ∧ (((((((((((wr.setCell ⟨w.heap.size + 1, 0, none⟩ (.int .i64 bud)).setCell ⟨w.heap.size + 1, 1, none⟩ (.slice po' n1 pc')).setCell ⟨w.heap.size + 1, 2, none⟩ (.slice so' j sc')).setCell ⟨w.heap.size + 1, 3, none⟩ (.slice wo' n3 wc')).setCell ⟨w.heap.size + 1, 4, none⟩ (.slice qo' n4 tc')).setCell ⟨w.heap.size + 1, 5, none⟩ (.bool bg)).setCell ⟨w.heap.size + 1, 6, none⟩ (.bool bk)).setCell ⟨w.heap.size + 1, 7, none⟩ (.int .i64 nx)).setCell ⟨w.heap.size + 1, 8, none⟩ (.int .i64 hb)).setCell ⟨w.heap.size + 1, 9, none⟩ (.slice ho' n5 hc'))).ownsRow w.heap.size 76 2 (.slice wo' n3 wc') n3 (flatW ws) ∧ (((((((((((wr.setCell ⟨w.heap.size + 1, 0, none⟩ (.int .i64 bud)).setCell ⟨w.heap.size + 1, 1, none⟩ (.slice po' n1 pc')).setCell ⟨w.heap.size + 1, 2, none⟩ (.slice so' j sc')).setCell ⟨w.heap.size + 1, 3, none⟩ (.slice wo' n3 wc')).setCell ⟨w.heap.size + 1, 4, none⟩ (.slice qo' n4 tc')).setCell ⟨w.heap.size + 1, 5, none⟩ (.bool bg)).setCell ⟨w.heap.size + 1, 6, none⟩ (.bool bk)).setCell ⟨w.heap.size + 1, 7, none⟩ (.int .i64 nx)).setCell ⟨w.heap.size + 1, 8, none⟩ (.int .i64 hb)).setCell ⟨w.heap.size + 1, 9, none⟩ (.slice ho' n5 hc'))).ownsRow w.heap.size 72 3 (.slice qo' n4 tc') n4 (flatT ts) ∧ (((((((((((wr.setCell ⟨w.heap.size + 1, 0, none⟩ (.int .i64 bud)).setCell ⟨w.heap.size + 1, 1, none⟩ (.slice po' n1 pc')).setCell ⟨w.heap.size + 1, 2, none⟩ (.slice so' j sc')).setCell ⟨w.heap.size + 1, 3, none⟩ (.slice wo' n3 wc')).setCell ⟨w.heap.size + 1, 4, none⟩ (.slice qo' n4 tc')).setCell ⟨w.heap.size + 1, 5, none⟩ (.bool bg)).setCell ⟨w.heap.size + 1, 6, none⟩ (.bool bk)).setCell ⟨w.heap.size + 1, 7, none⟩ (.int .i64 nx)).setCell ⟨w.heap.size + 1, 8, none⟩ (.int .i64 hb)).setCell ⟨w.heap.size + 1, 9, none⟩ (.slice ho' n5 hc'))).ownsRow w.heap.size 70 4 (.slice ho' n5 hc') n5 (flatP hs)) :=
        ⟨own_st10 HO0.out (own_ne10 HO0.out HCR.out.h1 (by decide)) _ _ _ _ _ _ _ _ _ _, own_st10 HOW.out.1 (own_ne10 HOW.out.1 HCR.out.h1 (by decide)) _ _ _ _ _ _ _ _ _ _, own_st10 HO2.out (own_ne10 HO2.out HCR.out.h1 (by decide)) _ _ _ _ _ _ _ _ _ _, own_st10 HO3.out (own_ne10 HO3.out HCR.out.h1 (by decide)) _ _ _ _ _ _ _ _ _ _, own_st10 HO4.out (own_ne10 HO4.out HCR.out.h1 (by decide)) _ _ _ _ _ _ _ _ _ _⟩
      go_wp2_with fail
      obtain ⟨FW, hFW⟩ : ∃ FW, ((((((((((wr.setCell ⟨w.heap.size + 1, 0, none⟩ (.int .i64 bud)).setCell ⟨w.heap.size + 1, 1, none⟩ (.slice po' n1 pc')).setCell ⟨w.heap.size + 1, 2, none⟩ (.slice so' j sc')).setCell ⟨w.heap.size + 1, 3, none⟩ (.slice wo' n3 wc')).setCell ⟨w.heap.size + 1, 4, none⟩ (.slice qo' n4 tc')).setCell ⟨w.heap.size + 1, 5, none⟩ (.bool bg)).setCell ⟨w.heap.size + 1, 6, none⟩ (.bool bk)).setCell ⟨w.heap.size + 1, 7, none⟩ (.int .i64 nx)).setCell ⟨w.heap.size + 1, 8, none⟩ (.int .i64 hb)).setCell ⟨w.heap.size + 1, 9, none⟩ (.slice ho' n5 hc')) = FW := ⟨_, rfl⟩
      rw [hFW] at HFW HFB HFO ⊢
      obtain ⟨f0, f1, f2, f3, f4, f5, f6, f7, f8, f9, fz⟩ := blk10 HFW.out
      clear hFW
      refine bodyPost_ret (v := .agg #[.int .i64 bud, .slice po' n1 pc', .slice so' j sc', .slice wo' n3 wc', .slice qo' n4 tc', .bool bg, .bool bk, .int .i64 nx, .int .i64 hb, .slice ho' n5 hc']) (by simp [results, Tryz.results71, go_sem, f0, f1, f2, f3, f4, f5, f6, f7, f8, f9]) rfl ⟨po', pc', so', sc', wo', wc', qo', tc', ho', hc', ?_, ?_, ?_, ?_, ?_, ?_, HFB.out⟩
      · rw [HLN.out.1, HOW.out.2, HLN.out.2.2.1, HLN.out.2.2.2.1, HLN.out.2.2.2.2]
      · rw [HLN.out.1]; exact HFO.out.1
      · rw [HOW.out.2]; exact HFO.out.2.1
      · rw [HLN.out.2.2.1]; exact HFO.out.2.2.1
      · rw [HLN.out.2.2.2.1]; exact HFO.out.2.2.2.1
      · rw [HLN.out.2.2.2.2]; exact HFO.out.2.2.2.2

set_option maxRecDepth 20000 in
set_option maxHeartbeats 8000000 in
theorem left_any (bud : Int) (po : Option Addr) (n1 pc : Nat) (so : Option Addr) (n2 sc : Nat) (wo : Option Addr) (n3 wc : Nat) (qo : Option Addr) (n4 tc : Nat) (bg bk : Bool) (nx hb : Int) (ho : Option Addr) (n5 hc : Nat) (ps : List Pl) (ss : List Srv) (ws : List Wtr) (ts : List Stp) (hs : List Pl) (w : World) (i : Nat) (hr1 : RowAt w (.slice po n1 pc) n1 (flatP ps)) (hn1 : ps.length = n1) (hq1 : n1 ≤ 1099511627776) (hr2 : RowAt w (.slice so n2 sc) n2 (flatV ss)) (hn2 : ss.length = n2) (hq2 : n2 ≤ 1099511627776) (hr3 : RowAt w (.slice wo n3 wc) n3 (flatW ws)) (hn3 : ws.length = n3) (hq3 : n3 ≤ 1099511627776) (hr4 : RowAt w (.slice qo n4 tc) n4 (flatT ts)) (hn4 : ts.length = n4) (hq4 : n4 ≤ 1099511627776) (hr5 : RowAt w (.slice ho n5 hc) n5 (flatP hs)) (hn5 : hs.length = n5) (hq5 : n5 ≤ 1099511627776) :
    Calls Tryz.prog 73 #[.agg #[.int .i64 bud, .slice po n1 pc, .slice so n2 sc, .slice wo n3 wc, .slice qo n4 tc, .bool bg, .bool bk, .int .i64 nx, .int .i64 hb, .slice ho n5 hc], .int .i64 i] w fun e w' => GaveW w w' bud ps ss (ws.eraseIdx i) ts bg bk nx hb hs e := by
  obtain ⟨W, hW⟩ : ∃ W, W = (w.alloc (bWd (.int .i64 bud) (.slice po n1 pc) (.slice so n2 sc) (.slice wo n3 wc) (.slice qo n4 tc) (.bool bg) (.bool bk) (.int .i64 nx) (.int .i64 hb) (.slice ho n5 hc))).alloc zW := ⟨_, rfl⟩
  have hbW : Below w.heap.size w W := by rw [hW]; exact nx_trans (nx_alloc _ _) (nx_alloc _ _)
  have HW : Hid (W = (w.alloc (bWd (.int .i64 bud) (.slice po n1 pc) (.slice so n2 sc) (.slice wo n3 wc) (.slice qo n4 tc) (.bool bg) (.bool bk) (.int .i64 nx) (.int .i64 hb) (.slice ho n5 hc))).alloc zW ∧ W.heap[w.heap.size]? = some (bWd (.int .i64 bud) (.slice po n1 pc) (.slice so n2 sc) (.slice wo n3 wc) (.slice qo n4 tc) (.bool bg) (.bool bk) (.int .i64 nx) (.int .i64 hb) (.slice ho n5 hc)) ∧ W.heap[w.heap.size + 1]? = some zW ∧ W.heap.size = w.heap.size + 2 ∧ Below w.heap.size w W) := by
    refine ⟨hW, ?_, ?_, ?_, hbW⟩
    · rw [hW]; exact (heap_alloc_lt _ _ (by simp)).trans (heap_alloc_at _ _ rfl)
    · rw [hW]; exact heap_alloc_at _ _ (by simp)
    · rw [hW]; simp
  have HCO := hideIt (copied_any bud po n1 pc so n2 sc wo n3 wc qo n4 tc bg bk nx hb ho n5 hc ps ss ws ts hs W (hr1.nx hbW) hn1 hq1 (hr2.nx hbW) hn2 hq2 (hr3.nx hbW) hn3 hq3 (hr4.nx hbW) hn4 hq4 (hr5.nx hbW) hn5 hq5)
  have HR : Hid (RowAt w (.slice wo n3 wc) n3 (flatW ws) ∧ ws.length = n3) := ⟨hr3, hn3⟩
  have HLN : Hid (ps.length = n1 ∧ ss.length = n2 ∧ ws.length = n3 ∧ ts.length = n4 ∧ hs.length = n5) := ⟨hn1, hn2, hn3, hn4, hn5⟩
  clear hr1 hn1 hr2 hn2 hr3 hn3 hr4 hn4 hr5 hn5 hW hbW
  go_enter Tryz.func73, Tryz.ntmps73
  go_wp2_with fail
  rw [← HW.out.1]
  refine HCO.out.mono ?_
  rintro e w1 ⟨po', pc', so', sc', wo', wc', qo', tc', ho', hc', rfl, o0, o1, o2, o3, o4, hb1⟩
  obtain ⟨g3, hg3⟩ : ∃ g3, w1.heap.size = g3 := ⟨_, rfl⟩
  obtain ⟨U, hU⟩ : ∃ U, U = w1.alloc (bWd (.int .i64 bud) (.slice po' n1 pc') (.slice so' n2 sc') (.slice none 0 0) (.slice qo' n4 tc') (.bool bg) (.bool bk) (.int .i64 nx) (.int .i64 hb) (.slice ho' n5 hc')) := ⟨_, rfl⟩
  have HU : Hid (U = w1.alloc (bWd (.int .i64 bud) (.slice po' n1 pc') (.slice so' n2 sc') (.slice none 0 0) (.slice qo' n4 tc') (.bool bg) (.bool bk) (.int .i64 nx) (.int .i64 hb) (.slice ho' n5 hc')) ∧ CP w (bWd (.int .i64 bud) (.slice po n1 pc) (.slice so n2 sc) (.slice wo n3 wc) (.slice qo n4 tc) (.bool bg) (.bool bk) (.int .i64 nx) (.int .i64 hb) (.slice ho n5 hc)) g3 (bWd (.int .i64 bud) (.slice po' n1 pc') (.slice so' n2 sc') (.slice none 0 0) (.slice qo' n4 tc') (.bool bg) (.bool bk) (.int .i64 nx) (.int .i64 hb) (.slice ho' n5 hc')) U ∧ (U.ownsRow w.heap.size 70 4 (.slice po' n1 pc') n1 (flatP ps) ∧ (Value.slice po' n1 pc').ownBlock ≠ some g3) ∧ (U.ownsRow w.heap.size 74 4 (.slice so' n2 sc') n2 (flatV ss) ∧ (Value.slice so' n2 sc').ownBlock ≠ some g3) ∧ (U.ownsRow w.heap.size 72 3 (.slice qo' n4 tc') n4 (flatT ts) ∧ (Value.slice qo' n4 tc').ownBlock ≠ some g3) ∧ (U.ownsRow w.heap.size 70 4 (.slice ho' n5 hc') n5 (flatP hs) ∧ (Value.slice ho' n5 hc').ownBlock ≠ some g3)) := by
    have hzW := HW.out.2.2.2.1
    have hz1 := hb1.size
    refine ⟨hU, ⟨?_, ?_, ?_, ?_, by omega⟩, ⟨?_, fun e => by have := (o0.lt g3 e).2; omega⟩, ⟨?_, fun e => by have := (o1.lt g3 e).2; omega⟩, ⟨?_, fun e => by have := (o3.lt g3 e).2; omega⟩, ⟨?_, fun e => by have := (o4.lt g3 e).2; omega⟩⟩
    · rw [hU]; exact blk_nx (blk_nx HW.out.2.1 hb1) (nx_alloc _ _)
    · rw [hU]; exact blk_nx (blk_nx HW.out.2.2.1 hb1) (nx_alloc _ _)
    · rw [hU]; exact heap_alloc_at _ _ hg3.symm
    · rw [hU]; exact nx_trans HW.out.2.2.2.2 (nx_trans hb1 (nx_alloc _ _))
    · rw [hU]; exact own_mono (own_below o0 (nx_alloc _ _)) HW.out.2.2.2.2.size
    · rw [hU]; exact own_mono (own_below o1 (nx_alloc _ _)) HW.out.2.2.2.2.size
    · rw [hU]; exact own_mono (own_below o3 (nx_alloc _ _)) HW.out.2.2.2.2.size
    · rw [hU]; exact own_mono (own_below o4 (nx_alloc _ _)) HW.out.2.2.2.2.size
  have HG3 := hideIt hg3
  clear o0 o1 o2 o3 o4 hb1 hU hg3
  go_upto_region 3 with fail
  rw [← HU.out.1, HG3.out]
  have HCP := hideIt HU.out.2.1
  go_wp2_with fail
  go_loopw [6] (fun ix wr => ∃ (k j : Nat) (wo' : Option Addr) (wc' : Nat), k ≤ n3 ∧ j ≤ k ∧ ix = .int .i64 k ∧ Hid (wr.heap[g3]? = some (bWd (.int .i64 bud) (.slice po' n1 pc') (.slice so' n2 sc') (.slice wo' j wc') (.slice qo' n4 tc') (.bool bg) (.bool bk) (.int .i64 nx) (.int .i64 hb) (.slice ho' n5 hc')) ∧ ((ws.take k).eraseIdx i).length = j ∧ wr.ownsRow U.heap.size 76 2 (.slice wo' j wc') j (flatW ((ws.take k).eraseIdx i)) ∧ Chg (fun y => y = g3) U wr)) (fun ix _ => n3 - (intOf ix).toNat)
  case atStart => exact ⟨0, 0, none, 0, Nat.zero_le _, Nat.le_refl _, rfl, HCP.out.h2, by simp, by simp only [List.take_zero, List.eraseIdx_nil]; exact World.ownsRow_nil _ _ _ _, Chg.refl _ _⟩
  case round =>
    obtain ⟨k, j, wo', wc', hk, hj, rfl, HS⟩ := hrel
    have HCR := hideIt (HCP.out.chg HS.out.2.2.2 HS.out.1)
    have hgU : g3 < U.heap.size := (Array.getElem?_eq_some_iff.1 HCP.out.h2).1
    have hUr := HS.out.2.2.2.size
    have hlo := HCP.out.lo
    obtain ⟨a0, a1, a2, a3, a4, a5, a6, a7, a8, a9, az⟩ := blk10 HCR.out.h0
    by_cases hlt : k < n3
    · obtain ⟨⟨x0, x1⟩, hx⟩ : ∃ x, ws[k]? = some x := ⟨_, List.getElem?_eq_getElem (by rw [HR.out.2]; exact hlt)⟩
      have HX := hideIt (erase_take (i := i) hx)
      obtain ⟨bl, off, hao, hbl, d0, d1⟩ := wt_at HR.out.1 hx
      subst hao
      have hlti : (k : Int) < (n3 : Int) := by omega
      have h0i : (0 : Int) ≤ (k : Int) := by omega
      clear hx
      by_cases hki : k = i
      · have HN : Hid (((ws.take (k + 1)).eraseIdx i) = ((ws.take k).eraseIdx i)) := by show _ = _; rw [HX.out, if_pos hki]
        have hb1 : ((k : Int) != (i : Int)) = false := by simp [hki]
        have hb2 : (k != i) = false := by simp [hki]
        clear hki HX d0 d1
        go_wp2_with fail
        go_roundw
        case rel => exact ⟨k + 1, j, wo', wc', by omega, by omega, by go_num, by rw [HN.out]; exact HS.out⟩
        case measure => simp [intOf]; omega
      · have HN : Hid (((ws.take (k + 1)).eraseIdx i) = ((ws.take k).eraseIdx i) ++ [⟨x0, x1⟩]) := by show _ = _; rw [HX.out, if_neg hki]
        have hb1 : ((k : Int) != (i : Int)) = true := by simp; omega
        have hb2 : (k != i) = true := by simp [hki]
        have HK : Hid (∀ w1 : World, (∀ b, b < wr.heap.size → some b ≠ (Value.slice wo' j wc').ownBlock → w1.heap[b]? = wr.heap[b]?) → w1.cell? ⟨g3, 3, none⟩ = some (.slice wo' j wc') ∧ w1.frozen? ⟨g3, 3, none⟩ = false ∧ w1.cell? ⟨w.heap.size, 3, none⟩ = some (.slice (some ⟨bl, off, none⟩) n3 wc) ∧ w1.cell? ⟨bl, off + k * 2, none⟩ = some (.int .i64 x0) ∧ w1.cell? ⟨bl, off + k * 2 + 1, none⟩ = some (.string x1)) := by
          intro w1 hw
          have h := rk HS.out.2.2.2 HS.out.2.2.1 hw
          have e3 := (h g3 hgU).trans HS.out.1
          have e0 := (h w.heap.size (by omega)).trans HCR.out.h0
          have eb : w1.heap[bl]? = w.heap[bl]? := (h bl (by omega)).trans (HCR.out.bel.block bl hbl)
          exact ⟨(blk10 e3).2.2.2.1, (blk10 e3).2.2.2.2.2.2.2.2.2.2 3, (blk10 e0).2.2.2.1, (World.cell?_of_block eb).trans d0, (World.cell?_of_block eb).trans d1⟩
        clear hki HX a0 a1 a2 a3 a4 a5 a6 a7 a8 a9 az d0 d1
        obtain ⟨p0, p1, p2, p3, p4⟩ := HK.out wr (fun _ _ _ => rfl)
        have hownd := HS.out.2.2.1
        have sA : ∀ o, (wr.alloc o).cell? ⟨g3, 3, none⟩ = some (.slice wo' j wc') := fun o => (HK.out (wr.alloc o) (fun j hj _ => heap_alloc_lt' _ _ hj)).1
        obtain ⟨t0, hi, hz0, hz1, hz2⟩ := info_parts infr_W
        go_upto_region 7 with fail
        go_region_law
          ((refine step_append_lies _ (by rfl) (.tmp 24) (.tmp 31) 33 (by rfl) U.heap.size 76 t0 _ 2 24 Tryz.underlying33 hi hz0 hz1 hz2 (by rfl) (by decide) _ j (flatW ((ws.take k).eraseIdx i)) (by rfl) (hownd.alloc _) ⟨wr.heap.size, 0, none⟩ 1 1 [.int .i64 x0, .string x1] (by rfl) (by rfl) (cells_new _ [.int .i64 x0, .string x1] _) (by intro u hu; simp at hu; rcases hu with rfl | rfl <;> rfl) (by omega) (by unfold maxLen; omega) (by omega) (by simp; omega) (wr.heap.size + 1) (by simp) ?_; intro g6 cap6 w6 hown6 hgrow6 hat6 hlt6; obtain ⟨q0, q1, _⟩ := HK.out w6 (fun j hj hne => (hgrow6.block j (by simp; omega) hne).trans (heap_alloc_lt' _ _ hj))))
        all_goals
          have HJ6 : Hid ((w6.setCell ⟨g3, 3, none⟩ (.slice (some ⟨g6, 0, none⟩) (j + 1) cap6)).heap[g3]? = some (bWd (.int .i64 bud) (.slice po' n1 pc') (.slice so' n2 sc') (.slice (some ⟨g6, 0, none⟩) (j + 1) cap6) (.slice qo' n4 tc') (.bool bg) (.bool bk) (.int .i64 nx) (.int .i64 hb) (.slice ho' n5 hc')) ∧ ((ws.take (k + 1)).eraseIdx i).length = j + 1 ∧ (w6.setCell ⟨g3, 3, none⟩ (.slice (some ⟨g6, 0, none⟩) (j + 1) cap6)).ownsRow U.heap.size 76 2 (.slice (some ⟨g6, 0, none⟩) (j + 1) cap6) (j + 1) (flatW ((ws.take (k + 1)).eraseIdx i)) ∧ Chg (fun y => y = g3) U (w6.setCell ⟨g3, 3, none⟩ (.slice (some ⟨g6, 0, none⟩) (j + 1) cap6))) := by
            refine ⟨set10_3 ((rnd_low HS.out.2.2.2.drew hownd hgrow6 g3 hgU).trans HS.out.1) _, by rw [HN.out]; simp [HS.out.2.1], ?_, rnd_chg HS.out.2.2.2.drew hownd hgrow6⟩
            rw [HN.out]
            unfold flatW
            rw [List.flatMap_append]
            exact ownsRow_setCell_below hown6 hgU _
          clear hown6 hgrow6 hat6 q0 q1 p0 p1 p2 p3 p4 sA hownd
          go_wp2_with fail
          go_roundw
          case rel => exact ⟨k + 1, j + 1, some ⟨g6, 0, none⟩, cap6, by omega, by omega, by go_num, HJ6.out⟩
          case measure => simp [intOf]; omega
    · have hkn : k = n3 := by omega
      have HOW : Hid (wr.ownsRow w.heap.size 76 2 (.slice wo' j wc') j (flatW (ws.eraseIdx i)) ∧ (ws.eraseIdx i).length = j) := by
        have h2 := HS.out.2.2.1
        have h3 := HS.out.2.1
        rw [hkn, List.take_of_length_le (by rw [HR.out.2]; exact Nat.le_refl _)] at h2 h3
        exact ⟨own_mono h2 HCP.out.bel.size, h3⟩
      have HO0 : Hid (wr.ownsRow w.heap.size 70 4 (.slice po' n1 pc') n1 (flatP ps)) := own_chg HU.out.2.2.1.1 HS.out.2.2.2 HU.out.2.2.1.2
      have HO1 : Hid (wr.ownsRow w.heap.size 74 4 (.slice so' n2 sc') n2 (flatV ss)) := own_chg HU.out.2.2.2.1.1 HS.out.2.2.2 HU.out.2.2.2.1.2
      have HO3 : Hid (wr.ownsRow w.heap.size 72 3 (.slice qo' n4 tc') n4 (flatT ts)) := own_chg HU.out.2.2.2.2.1.1 HS.out.2.2.2 HU.out.2.2.2.2.1.2
      have HO4 : Hid (wr.ownsRow w.heap.size 70 4 (.slice ho' n5 hc') n5 (flatP hs)) := own_chg HU.out.2.2.2.2.2.1 HS.out.2.2.2 HU.out.2.2.2.2.2.2
      clear a0 a1 a2 a3 a4 a5 a6 a7 a8 a9 az hkn
      obtain ⟨a0, a1, a2, a3, a4, a5, a6, a7, a8, a9, az⟩ := blk10 HCR.out.h0
      obtain ⟨e0, e1, e2, e3, e4, e5, e6, e7, e8, e9, ez⟩ := blk10 HCR.out.h2
      obtain ⟨r0, r1, r2, r3, r4, r5, r6, r7, r8, r9, rz⟩ := blk10 HCR.out.h1
      have HFW : Hid ((((((((((((wr.setCell ⟨w.heap.size + 1, 0, none⟩ (.int .i64 bud)).setCell ⟨w.heap.size + 1, 1, none⟩ (.slice po' n1 pc')).setCell ⟨w.heap.size + 1, 2, none⟩ (.slice so' n2 sc')).setCell ⟨w.heap.size + 1, 3, none⟩ (.slice wo' j wc')).setCell ⟨w.heap.size + 1, 4, none⟩ (.slice qo' n4 tc')).setCell ⟨w.heap.size + 1, 5, none⟩ (.bool bg)).setCell ⟨w.heap.size + 1, 6, none⟩ (.bool bk)).setCell ⟨w.heap.size + 1, 7, none⟩ (.int .i64 nx)).setCell ⟨w.heap.size + 1, 8, none⟩ (.int .i64 hb)).setCell ⟨w.heap.size + 1, 9, none⟩ (.slice ho' n5 hc'))).heap[w.heap.size + 1]? = some (bWd (.int .i64 bud) (.slice po' n1 pc') (.slice so' n2 sc') (.slice wo' j wc') (.slice qo' n4 tc') (.bool bg) (.bool bk) (.int .i64 nx) (.int .i64 hb) (.slice ho' n5 hc'))) := st10_heap HCR.out.h1 _ _ _ _ _ _ _ _ _ _
      have HFB : Hid (Below w.heap.size w (((((((((((wr.setCell ⟨w.heap.size + 1, 0, none⟩ (.int .i64 bud)).setCell ⟨w.heap.size + 1, 1, none⟩ (.slice po' n1 pc')).setCell ⟨w.heap.size + 1, 2, none⟩ (.slice so' n2 sc')).setCell ⟨w.heap.size + 1, 3, none⟩ (.slice wo' j wc')).setCell ⟨w.heap.size + 1, 4, none⟩ (.slice qo' n4 tc')).setCell ⟨w.heap.size + 1, 5, none⟩ (.bool bg)).setCell ⟨w.heap.size + 1, 6, none⟩ (.bool bk)).setCell ⟨w.heap.size + 1, 7, none⟩ (.int .i64 nx)).setCell ⟨w.heap.size + 1, 8, none⟩ (.int .i64 hb)).setCell ⟨w.heap.size + 1, 9, none⟩ (.slice ho' n5 hc')))) := st10_bel HCR.out.bel (by omega) _ _ _ _ _ _ _ _ _ _
      have HFO : Hid ((((((((((((wr.setCell ⟨w.heap.size + 1, 0, none⟩ (.int .i64 bud)).setCell ⟨w.heap.size + 1, 1, none⟩ (.slice po' n1 pc')).setCell ⟨w.heap.size + 1, 2, none⟩ (.slice so' n2 sc')).setCell ⟨w.heap.size + 1, 3, none⟩ (.slice wo' j wc')).setCell ⟨w.heap.size + 1, 4, none⟩ (.slice qo' n4 tc')).setCell ⟨w.heap.size + 1, 5, none⟩ (.bool bg)).setCell ⟨w.heap.size + 1, 6, none⟩ (.bool bk)).setCell ⟨w.heap.size + 1, 7, none⟩ (.int .i64 nx)).setCell ⟨w.heap.size + 1, 8, none⟩ (.int .i64 hb)).setCell ⟨w.heap.size + 1, 9, none⟩ (.slice ho' n5 hc'))).ownsRow w.heap.size 70 4 (.slice po' n1 pc') n1 (flatP ps) ∧ (((((((((((wr.setCell ⟨w.heap.size + 1, 0, none⟩ (.int .i64 bud)).setCell ⟨w.heap.size + 1, 1, none⟩ (.slice po' n1 pc')).setCell ⟨w.heap.size + 1, 2, none⟩ (.slice so' n2 sc')).setCell ⟨w.heap.size + 1, 3, none⟩ (.slice wo' j wc')).setCell ⟨w.heap.size + 1, 4, none⟩ (.slice qo' n4 tc')).setCell ⟨w.heap.size + 1, 5, none⟩ (.bool bg)).setCell ⟨w.heap.size + 1, 6, none⟩ (.bool bk)).setCell ⟨w.heap.size + 1, 7, none⟩ (.int .i64 nx)).setCell ⟨w.heap.size + 1, 8, none⟩ (.int .i64 hb)).setCell ⟨w.heap.size + 1, 9, none⟩ (.slice ho' n5 hc'))).ownsRow w.heap.size 74 4 (.slice so' n2 sc') n2 (flatV ss) ∧ (((((((((((wr.setCell ⟨w.heap.size + 1, 0, none⟩ (.int .i64 bud)).setCell ⟨w.heap.size + 1, 1, none⟩ (.slice po' n1 pc')).setCell ⟨w.heap.size + 1, 2, none⟩ (.slice so' n2 sc')).setCell ⟨w.heap.size + 1, 3, none⟩ (.slice wo' j wc')).setCell ⟨w.heap.size + 1, 4, none⟩ (.slice qo' n4 tc')).setCell ⟨w.heap.size + 1, 5, none⟩ (.bool bg)).setCell ⟨w.heap.size + 1, 6, none⟩ (.bool bk)).setCell ⟨w.heap.size + 1, 7, none⟩ (.int .i64 nx)).setCell ⟨w.heap.size + 1, 8, none⟩ (.int .i64 hb)).setCell ⟨w.heap.size + 1, 9, none⟩ (.slice ho' n5 hc'))).ownsRow w.heap.size 76 2 (.slice wo' j wc') j (flatW (ws.eraseIdx i)) ∧ (((((((((((wr.setCell ⟨w.heap.size + 1, 0, none⟩ (.int .i64 bud)).setCell ⟨w.heap.size + 1, 1, none⟩ (.slice po' n1 pc')).setCell ⟨w.heap.size + 1, 2, none⟩ (.slice so' n2 sc')).setCell ⟨w.heap.size + 1, 3, none⟩ (.slice wo' j wc')).setCell ⟨w.heap.size + 1, 4, none⟩ (.slice qo' n4 tc')).setCell ⟨w.heap.size + 1, 5, none⟩ (.bool bg)).setCell ⟨w.heap.size + 1, 6, none⟩ (.bool bk)).setCell ⟨w.heap.size + 1, 7, none⟩ (.int .i64 nx)).setCell ⟨w.heap.size + 1, 8, none⟩ (.int .i64 hb)).setCell ⟨w.heap.size + 1, 9, none⟩ (.slice ho' n5 hc'))).ownsRow w.heap.size 72 3 (.slice qo' n4 tc') n4 (flatT ts) ∧ (((((((((((wr.setCell ⟨w.heap.size + 1, 0, none⟩ (.int .i64 bud)).setCell ⟨w.heap.size + 1, 1, none⟩ (.slice po' n1 pc')).setCell ⟨w.heap.size + 1, 2, none⟩ (.slice so' n2 sc')).setCell ⟨w.heap.size + 1, 3, none⟩ (.slice wo' j wc')).setCell ⟨w.heap.size + 1, 4, none⟩ (.slice qo' n4 tc')).setCell ⟨w.heap.size + 1, 5, none⟩ (.bool bg)).setCell ⟨w.heap.size + 1, 6, none⟩ (.bool bk)).setCell ⟨w.heap.size + 1, 7, none⟩ (.int .i64 nx)).setCell ⟨w.heap.size + 1, 8, none⟩ (.int .i64 hb)).setCell ⟨w.heap.size + 1, 9, none⟩ (.slice ho' n5 hc'))).ownsRow w.heap.size 70 4 (.slice ho' n5 hc') n5 (flatP hs)) :=
        ⟨own_st10 HO0.out (own_ne10 HO0.out HCR.out.h1 (by decide)) _ _ _ _ _ _ _ _ _ _, own_st10 HO1.out (own_ne10 HO1.out HCR.out.h1 (by decide)) _ _ _ _ _ _ _ _ _ _, own_st10 HOW.out.1 (own_ne10 HOW.out.1 HCR.out.h1 (by decide)) _ _ _ _ _ _ _ _ _ _, own_st10 HO3.out (own_ne10 HO3.out HCR.out.h1 (by decide)) _ _ _ _ _ _ _ _ _ _, own_st10 HO4.out (own_ne10 HO4.out HCR.out.h1 (by decide)) _ _ _ _ _ _ _ _ _ _⟩
      go_wp2_with fail
      obtain ⟨FW, hFW⟩ : ∃ FW, ((((((((((wr.setCell ⟨w.heap.size + 1, 0, none⟩ (.int .i64 bud)).setCell ⟨w.heap.size + 1, 1, none⟩ (.slice po' n1 pc')).setCell ⟨w.heap.size + 1, 2, none⟩ (.slice so' n2 sc')).setCell ⟨w.heap.size + 1, 3, none⟩ (.slice wo' j wc')).setCell ⟨w.heap.size + 1, 4, none⟩ (.slice qo' n4 tc')).setCell ⟨w.heap.size + 1, 5, none⟩ (.bool bg)).setCell ⟨w.heap.size + 1, 6, none⟩ (.bool bk)).setCell ⟨w.heap.size + 1, 7, none⟩ (.int .i64 nx)).setCell ⟨w.heap.size + 1, 8, none⟩ (.int .i64 hb)).setCell ⟨w.heap.size + 1, 9, none⟩ (.slice ho' n5 hc')) = FW := ⟨_, rfl⟩
      rw [hFW] at HFW HFB HFO ⊢
      obtain ⟨f0, f1, f2, f3, f4, f5, f6, f7, f8, f9, fz⟩ := blk10 HFW.out
      clear hFW
      refine bodyPost_ret (v := .agg #[.int .i64 bud, .slice po' n1 pc', .slice so' n2 sc', .slice wo' j wc', .slice qo' n4 tc', .bool bg, .bool bk, .int .i64 nx, .int .i64 hb, .slice ho' n5 hc']) (by simp [results, Tryz.results73, go_sem, f0, f1, f2, f3, f4, f5, f6, f7, f8, f9]) rfl ⟨po', pc', so', sc', wo', wc', qo', tc', ho', hc', ?_, ?_, ?_, ?_, ?_, ?_, HFB.out⟩
      · rw [HLN.out.1, HLN.out.2.1, HOW.out.2, HLN.out.2.2.2.1, HLN.out.2.2.2.2]
      · rw [HLN.out.1]; exact HFO.out.1
      · rw [HLN.out.2.1]; exact HFO.out.2.1
      · rw [HOW.out.2]; exact HFO.out.2.2.1
      · rw [HLN.out.2.2.2.1]; exact HFO.out.2.2.2.1
      · rw [HLN.out.2.2.2.2]; exact HFO.out.2.2.2.2

end Lw
end Go.Proofs.YtmmmjpkhnbfnbaaGreat
