import Derived.Test.YtmmmjpkhnbfnbaaGreatMgU
import Derived.Deep.RegionLaw
import Derived.Deep.AppendLies
namespace Go.Proofs.YtmmmjpkhnbfnbaaGreat
open Go.RowKit
namespace Lw
open Co

set_option maxRecDepth 20000 in
set_option maxHeartbeats 8000000 in
theorem copied_any (bud : Int) (po : Option Addr) (n1 pc : Nat) (so : Option Addr) (n2 sc : Nat) (wo : Option Addr) (n3 wc : Nat) (qo : Option Addr) (n4 tc : Nat) (bg bk : Bool) (nx hb : Int) (ho : Option Addr) (n5 hc : Nat) (ps : List Pl) (ss : List Srv) (ws : List Wtr) (ts : List Stp) (hs : List Pl) (w : World)
    (hr1 : RowAt w (.slice po n1 pc) n1 (flatP ps)) (hn1 : ps.length = n1) (hq1 : n1 ≤ 1099511627776) (hr2 : RowAt w (.slice so n2 sc) n2 (flatV ss)) (hn2 : ss.length = n2) (hq2 : n2 ≤ 1099511627776) (hr3 : RowAt w (.slice wo n3 wc) n3 (flatW ws)) (hn3 : ws.length = n3) (hq3 : n3 ≤ 1099511627776)
    (hr4 : RowAt w (.slice qo n4 tc) n4 (flatT ts)) (hn4 : ts.length = n4) (hq4 : n4 ≤ 1099511627776) (hr5 : RowAt w (.slice ho n5 hc) n5 (flatP hs)) (hn5 : hs.length = n5) (hq5 : n5 ≤ 1099511627776) :
    Calls Tryz.prog 45 #[.agg #[.int .i64 bud, .slice po n1 pc, .slice so n2 sc, .slice wo n3 wc, .slice qo n4 tc, .bool bg, .bool bk, .int .i64 nx, .int .i64 hb, .slice ho n5 hc]] w fun e w' => ∃ po' pc' so' sc' wo' wc' qo' tc' ho' hc', e = .returned (.agg #[.int .i64 bud, .slice po' n1 pc', .slice so' n2 sc', .slice wo' n3 wc', .slice qo' n4 tc', .bool bg, .bool bk, .int .i64 nx, .int .i64 hb, .slice ho' n5 hc']) ∧
      w'.ownsRow w.heap.size 70 4 (.slice po' n1 pc') n1 (flatP ps) ∧ w'.ownsRow w.heap.size 74 4 (.slice so' n2 sc') n2 (flatV ss) ∧ w'.ownsRow w.heap.size 76 2 (.slice wo' n3 wc') n3 (flatW ws) ∧ w'.ownsRow w.heap.size 72 3 (.slice qo' n4 tc') n4 (flatT ts) ∧ w'.ownsRow w.heap.size 70 4 (.slice ho' n5 hc') n5 (flatP hs) ∧ Below w.heap.size w w' := by
  obtain ⟨W, hW⟩ : ∃ W, W = (w.alloc (bWd (.int .i64 bud) (.slice po n1 pc) (.slice so n2 sc) (.slice wo n3 wc) (.slice qo n4 tc) (.bool bg) (.bool bk) (.int .i64 nx) (.int .i64 hb) (.slice ho n5 hc))).alloc zW := ⟨_, rfl⟩
  have hbW : Below w.heap.size w W := by rw [hW]; exact nx_trans (nx_alloc _ _) (nx_alloc _ _)
  have HW : Hid (W = (w.alloc (bWd (.int .i64 bud) (.slice po n1 pc) (.slice so n2 sc) (.slice wo n3 wc) (.slice qo n4 tc) (.bool bg) (.bool bk) (.int .i64 nx) (.int .i64 hb) (.slice ho n5 hc))).alloc zW ∧ W.heap[w.heap.size]? = some (bWd (.int .i64 bud) (.slice po n1 pc) (.slice so n2 sc) (.slice wo n3 wc) (.slice qo n4 tc) (.bool bg) (.bool bk) (.int .i64 nx) (.int .i64 hb) (.slice ho n5 hc)) ∧ W.heap[w.heap.size + 1]? = some zW ∧ W.heap.size = w.heap.size + 2 ∧ Below w.heap.size w W) := by
    refine ⟨hW, ?_, ?_, ?_, hbW⟩
    · rw [hW]; exact (heap_alloc_lt _ _ (by simp)).trans (heap_alloc_at _ _ rfl)
    · rw [hW]; exact heap_alloc_at _ _ (by simp)
    · rw [hW]; simp
  have HT5 := hideIt (fun u (hb' : Below W.heap.size W u) => tabled_any hb hs ho n5 hc u ((hr5.nx hbW).nx hb') hn5 hq5)
  have HT1 := hideIt (fun u (hb' : Below W.heap.size W u) => tabled_any bud ps po n1 pc u ((hr1.nx hbW).nx hb') hn1 hq1)
  have HR : Hid (RowAt w (.slice so n2 sc) n2 (flatV ss) ∧ ss.length = n2 ∧ RowAt w (.slice wo n3 wc) n3 (flatW ws) ∧ ws.length = n3 ∧ RowAt w (.slice qo n4 tc) n4 (flatT ts) ∧ ts.length = n4) := ⟨hr2, hn2, hr3, hn3, hr4, hn4⟩
  clear hr1 hn1 hr2 hn2 hr3 hn3 hr4 hn4 hr5 hn5 hW hbW
  go_enter Tryz.func45, Tryz.ntmps45
  go_upto_region 1 with fail
  rw [← HW.out.1]
  obtain ⟨a0, a1, a2, a3, a4, a5, a6, a7, a8, a9, az⟩ := blk10 HW.out.2.1
  have hz := HW.out.2.2.2.1
  have hlt : w.heap.size < W.heap.size := by omega
  have HZ := hideIt hz
  clear hz
  have n7 := World.new_ne W _ a7
  have n8 := World.new_ne W _ a8
  have n9 := World.new_ne W _ a9
  go_cut [3] (fun p3 wx => ∃ (g3 : Nat) (ho' : Option Addr) (hc' : Nat) (wz : World), p3 = .pointer (some ⟨g3, 0, none⟩) ∧ Hid (W.heap.size ≤ g3 ∧ wz.heap[g3]? = some (bWd (.int .i64 0) (.slice none 0 0) (.slice none 0 0) (.slice none 0 0) (.slice none 0 0) (.bool false) (.bool false) (.int .i64 nx) (.int .i64 hb) (.slice ho' n5 hc')) ∧ wz.ownsRow W.heap.size 70 4 (.slice ho' n5 hc') n5 (flatP hs) ∧ Below W.heap.size W wz) ∧ wz = wx)
  case first =>
    go_region_held3 (fun w' => w'.cell? ⟨w.heap.size, 7, none⟩ = some (.int .i64 nx) ∧ w'.cell? ⟨w.heap.size, 8, none⟩ = some (.int .i64 hb) ∧ w'.cell? ⟨w.heap.size, 9, none⟩ = some (.slice ho n5 hc)) (go_keep)
      ((go_at_call 47; refine (HT5.out _ (by first | exact (Below.refl _ _).drew | exact (Below.refl _ _).drew.alloc (Nat.le_refl _) _)).mono ?_; rintro e w2 ⟨ho', hc', rfl, ho2, hb2⟩; have HB2 : Hid (Below W.heap.size W w2) := (by first | exact nx_trans (Below.refl _ _).drew hb2 | exact nx_trans ((Below.refl _ _).drew.alloc (Nat.le_refl _) _) hb2); have HO2 : Hid (w2.ownsRow W.heap.size 70 4 (.slice ho' n5 hc') n5 (flatP hs)) := own_mono ho2 (by simp); clear ho2; have q1 := (HB2.out.cell (p := ⟨w.heap.size, 7, none⟩) hlt).trans a7; have q2 := (HB2.out.cell (p := ⟨w.heap.size, 8, none⟩) hlt).trans a8; have q3 := (HB2.out.cell (p := ⟨w.heap.size, 9, none⟩) hlt).trans a9; have r1 := World.new_ne w2 _ q1; have r2 := World.new_ne w2 _ q2; have r3 := World.new_ne w2 _ q3; first | (have HBX : Hid (w2.heap[W.heap.size]? = some zW) := (hb2.block W.heap.size (by simp)).trans (heap_alloc_at W zW rfl); obtain ⟨k0, k1, k2, k3, k4, k5, k6, k7, k8, k9, kz⟩ := blk10 HBX.out) | skip; clear hb2))
    all_goals
      go_wp2_with fail
      go_meet
      first
      | exact ⟨_, ho', hc', _, rfl, ⟨HB2.out.size, heap_alloc_at _ _ rfl, own_below HO2.out (nx_alloc _ _), nx_trans HB2.out (nx_alloc _ _)⟩, rfl⟩
      | exact ⟨_, ho', hc', _, rfl, ⟨Nat.le_refl _, st10_heap HBX.out _ _ _ _ _ _ _ _ _ _, own_st10 HO2.out (own_ne10 HO2.out HBX.out (by decide)) _ _ _ _ _ _ _ _ _ _, st10_bel HB2.out (Nat.le_refl _) _ _ _ _ _ _ _ _ _ _⟩, rfl⟩
  case rest =>
    obtain ⟨g3, ho', hc', u1, rfl, H1, rfl⟩ := hcut
    clear a0 a1 a2 a3 a4 a5 a6 a7 a8 a9 az n7 n8 n9
    obtain ⟨a0, a1, a2, a3, a4, a5, a6, a7, a8, a9, az⟩ := blk10 (blk_nx HW.out.2.1 H1.out.2.2.2)
    go_wp2_with fail
    refine (HT1.out u1 H1.out.2.2.2).mono ?_
    rintro e w3 ⟨po', pc', rfl, hop, hb3⟩
    have h3g : w3.heap[g3]? = some (bWd (.int .i64 0) (.slice none 0 0) (.slice none 0 0) (.slice none 0 0) (.slice none 0 0) (.bool false) (.bool false) (.int .i64 nx) (.int .i64 hb) (.slice ho' n5 hc')) := blk_nx H1.out.2.1 hb3
    obtain ⟨e0, e1, e2, e3, e4, e5, e6, e7, e8, e9, ez⟩ := blk10 h3g
    obtain ⟨U, hU⟩ : ∃ U, U = (w3.setCell ⟨g3, 0, none⟩ (.int .i64 bud)).setCell ⟨g3, 1, none⟩ (.slice po' n1 pc') := ⟨_, rfl⟩
    have hg3 := H1.out.1
    have hz := HZ.out
    have HU : Hid (U = (w3.setCell ⟨g3, 0, none⟩ (.int .i64 bud)).setCell ⟨g3, 1, none⟩ (.slice po' n1 pc') ∧ CP w (bWd (.int .i64 bud) (.slice po n1 pc) (.slice so n2 sc) (.slice wo n3 wc) (.slice qo n4 tc) (.bool bg) (.bool bk) (.int .i64 nx) (.int .i64 hb) (.slice ho n5 hc)) g3 (bWd (.int .i64 bud) (.slice po' n1 pc') (.slice none 0 0) (.slice none 0 0) (.slice none 0 0) (.bool false) (.bool false) (.int .i64 nx) (.int .i64 hb) (.slice ho' n5 hc')) U ∧ (U.ownsRow w.heap.size 70 4 (.slice po' n1 pc') n1 (flatP ps) ∧ (Value.slice po' n1 pc').ownBlock ≠ some g3) ∧ (U.ownsRow w.heap.size 70 4 (.slice ho' n5 hc') n5 (flatP hs) ∧ (Value.slice ho' n5 hc').ownBlock ≠ some g3)) := by
      have hoh := own_below H1.out.2.2.1 hb3
      have np := own_ne10 hop h3g (by decide)
      have nh := own_ne10 hoh h3g (by decide)
      have hs : ∀ b, b ≠ g3 → U.heap[b]? = w3.heap[b]? := fun b hb => by rw [hU]; exact (Below.heap_setCell _ _ _ _ hb).trans (Below.heap_setCell _ _ _ _ hb)
      refine ⟨hU, ⟨(hs _ (by omega)).trans (blk_nx (blk_nx HW.out.2.1 H1.out.2.2.2) hb3), (hs _ (by omega)).trans (blk_nx (blk_nx HW.out.2.2.1 H1.out.2.2.2) hb3), ?_, ?_, by omega⟩, ⟨?_, np⟩, ⟨?_, nh⟩⟩
      · rw [hU]; exact set10_1 (set10_0 h3g _) _
      · rw [hU]
        exact ((nx_trans HW.out.2.2.2.2 (nx_trans H1.out.2.2.2 hb3)).setCell (by show w.heap.size ≤ g3; omega) _).setCell (by show w.heap.size ≤ g3; omega) _
      · rw [hU]; exact own_mono (own_set1 (own_set1 hop np) np) (Nat.le_trans HW.out.2.2.2.2.size H1.out.2.2.2.size)
      · rw [hU]; exact own_mono (own_set1 (own_set1 hoh nh) nh) HW.out.2.2.2.2.size
    clear hU hop hb3 h3g hz
    go_upto_region 3 with fail
    rw [← HU.out.1]
    clear a0 a1 a2 a3 a4 a5 a6 a7 a8 a9 az e0 e1 e2 e3 e4 e5 e6 e7 e8 e9 ez
    go_wp2_with fail
    have HCP0 := hideIt HU.out.2.1
    have HOP := hideIt HU.out.2.2.1
    have HOH := hideIt HU.out.2.2.2
    go_loopw [4] (fun i wr => ∃ (k : Nat) (so' : Option Addr) (sc' : Nat), k ≤ n2 ∧ i = .int .i64 k ∧ Hid (wr.heap[g3]? = some (bWd (.int .i64 bud) (.slice po' n1 pc') (.slice so' k sc') (.slice none 0 0) (.slice none 0 0) (.bool false) (.bool false) (.int .i64 nx) (.int .i64 hb) (.slice ho' n5 hc')) ∧ wr.ownsRow U.heap.size 74 4 (.slice so' k sc') k (flatV (ss.take k)) ∧ Chg (fun y => y = g3) U wr)) (fun i _ => n2 - (intOf i).toNat)
    case atStart => exact ⟨0, none, 0, Nat.zero_le _, rfl, HCP0.out.h2, World.ownsRow_nil _ _ _ _, Chg.refl _ _⟩
    case round =>
      obtain ⟨k, so', sc', hk, rfl, HS⟩ := hrel
      have HCR := hideIt (HCP0.out.chg HS.out.2.2 HS.out.1)
      have hgU : g3 < U.heap.size := (Array.getElem?_eq_some_iff.1 HCP0.out.h2).1
      have hUr := HS.out.2.2.size
      have hlo := HCP0.out.lo
      obtain ⟨a0, a1, a2, a3, a4, a5, a6, a7, a8, a9, az⟩ := blk10 HCR.out.h0
      by_cases hlt : k < n2
      · obtain ⟨⟨x0, x1, x2, x3⟩, hx⟩ : ∃ x, ss[k]? = some x := ⟨_, List.getElem?_eq_getElem (by rw [HR.out.2.1]; exact hlt)⟩
        obtain ⟨bl, off, hao, hbl, d0, d1, d2, d3⟩ := sv_at HR.out.1 hx
        subst hao
        have HX : Hid (ss.take (k + 1) = ss.take k ++ [⟨x0, x1, x2, x3⟩]) := by
          obtain ⟨hk', e⟩ := List.getElem?_eq_some_iff.1 hx
          show _ = _
          rw [List.take_succ_eq_append_getElem hk', e]
        have HK : Hid (∀ w1 : World, (∀ b, b < wr.heap.size → some b ≠ (Value.slice so' k sc').ownBlock → w1.heap[b]? = wr.heap[b]?) → w1.cell? ⟨g3, 2, none⟩ = some (.slice so' k sc') ∧ w1.frozen? ⟨g3, 2, none⟩ = false ∧ w1.cell? ⟨w.heap.size, 2, none⟩ = some (.slice (some ⟨bl, off, none⟩) n2 sc) ∧ w1.cell? ⟨bl, off + k * 4, none⟩ = some (.int .i64 x0) ∧ w1.cell? ⟨bl, off + k * 4 + 1, none⟩ = some (.string x1) ∧ w1.cell? ⟨bl, off + k * 4 + 2, none⟩ = some (.int .i64 x2) ∧ w1.cell? ⟨bl, off + k * 4 + 3, none⟩ = some (.int .i64 x3)) := by
          intro w1 hw
          have h := rk HS.out.2.2 HS.out.2.1 hw
          have e3 := (h g3 hgU).trans HS.out.1
          have e0 := (h w.heap.size (by omega)).trans HCR.out.h0
          have eb : w1.heap[bl]? = w.heap[bl]? := (h bl (by omega)).trans (HCR.out.bel.block bl hbl)
          exact ⟨(blk10 e3).2.2.1, (blk10 e3).2.2.2.2.2.2.2.2.2.2 2, (blk10 e0).2.2.1, (World.cell?_of_block eb).trans d0, (World.cell?_of_block eb).trans d1, (World.cell?_of_block eb).trans d2, (World.cell?_of_block eb).trans d3⟩
        clear hx a0 a1 a2 a3 a4 a5 a6 a7 a8 a9 az d0 d1 d2 d3
        have hlti : (k : Int) < (n2 : Int) := by omega
        have h0i : (0 : Int) ≤ (k : Int) := by omega
        obtain ⟨p0, p1, p2, p3, p4, p5, p6⟩ := HK.out wr (fun _ _ _ => rfl)
        have hownd := HS.out.2.1
        have sA : ∀ o, (wr.alloc o).cell? ⟨g3, 2, none⟩ = some (.slice so' k sc') := fun o => (HK.out (wr.alloc o) (fun j hj _ => heap_alloc_lt' _ _ hj)).1
        obtain ⟨t0, hi, hz0, hz1, hz2⟩ := info_parts infr_V
        go_upto_region 6 with fail
        go_region_law
          ((refine step_append_lies _ (by rfl) (.tmp 29) (.tmp 36) 32 (by rfl) U.heap.size 74 t0 _ 4 40 Tryz.underlying32 hi hz0 hz1 hz2 (by rfl) (by decide) _ k (flatV (ss.take k)) (by rfl) (hownd.alloc _) ⟨wr.heap.size, 0, none⟩ 1 1 [.int .i64 x0, .string x1, .int .i64 x2, .int .i64 x3] (by rfl) (by rfl) (cells_new _ [.int .i64 x0, .string x1, .int .i64 x2, .int .i64 x3] _) (by intro u hu; simp at hu; rcases hu with rfl | rfl | rfl | rfl <;> rfl) (by omega) (by unfold maxLen; omega) (by omega) (by simp; omega) (wr.heap.size + 1) (by simp) ?_; intro g6 cap6 w6 hown6 hgrow6 hat6 hlt6; obtain ⟨q0, q1, _⟩ := HK.out w6 (fun j hj hne => (hgrow6.block j (by simp; omega) hne).trans (heap_alloc_lt' _ _ hj))))
        all_goals
          have HJ6 : Hid ((w6.setCell ⟨g3, 2, none⟩ (.slice (some ⟨g6, 0, none⟩) (k + 1) cap6)).heap[g3]? = some (bWd (.int .i64 bud) (.slice po' n1 pc') (.slice (some ⟨g6, 0, none⟩) (k + 1) cap6) (.slice none 0 0) (.slice none 0 0) (.bool false) (.bool false) (.int .i64 nx) (.int .i64 hb) (.slice ho' n5 hc')) ∧ (w6.setCell ⟨g3, 2, none⟩ (.slice (some ⟨g6, 0, none⟩) (k + 1) cap6)).ownsRow U.heap.size 74 4 (.slice (some ⟨g6, 0, none⟩) (k + 1) cap6) (k + 1) (flatV (ss.take (k + 1))) ∧ Chg (fun y => y = g3) U (w6.setCell ⟨g3, 2, none⟩ (.slice (some ⟨g6, 0, none⟩) (k + 1) cap6))) := by
            refine ⟨set10_2 ((rnd_low HS.out.2.2.drew hownd hgrow6 g3 hgU).trans HS.out.1) _, ?_, rnd_chg HS.out.2.2.drew hownd hgrow6⟩
            rw [HX.out]
            unfold flatV
            rw [List.flatMap_append]
            exact ownsRow_setCell_below hown6 hgU _
          clear hown6 hgrow6 hat6 q0 q1 p0 p1 p2 p3 p4 p5 p6 sA hownd
          go_wp2_with fail
          go_roundw
          case rel => exact ⟨k + 1, some ⟨g6, 0, none⟩, cap6, by omega, by go_num, HJ6.out⟩
          case measure => simp [intOf]; omega
      · have hkn : k = n2 := by omega
        have HE : Hid (CP w (bWd (.int .i64 bud) (.slice po n1 pc) (.slice so n2 sc) (.slice wo n3 wc) (.slice qo n4 tc) (.bool bg) (.bool bk) (.int .i64 nx) (.int .i64 hb) (.slice ho n5 hc)) g3 (bWd (.int .i64 bud) (.slice po' n1 pc') (.slice so' n2 sc') (.slice none 0 0) (.slice none 0 0) (.bool false) (.bool false) (.int .i64 nx) (.int .i64 hb) (.slice ho' n5 hc')) wr ∧ wr.ownsRow w.heap.size 74 4 (.slice so' n2 sc') n2 (flatV ss) ∧ (Value.slice so' n2 sc').ownBlock ≠ some g3 ∧ Chg (fun y => y = g3) U wr) := by
          have h1 := HCR.out
          have h2 := HS.out.2.1
          rw [hkn] at h1 h2
          rw [List.take_of_length_le (by rw [HR.out.2.1]; exact Nat.le_refl _)] at h2
          refine ⟨h1, own_mono h2 HCP0.out.bel.size, fun e => ?_, HS.out.2.2⟩
          have := (h2.lt g3 e).1
          omega
        clear hkn hUr hlo
        obtain ⟨U2, rfl⟩ : ∃ U2, U2 = wr := ⟨_, rfl⟩
        have HCP1 := hideIt HE.out.1
        have HOPa : Hid (U2.ownsRow w.heap.size 70 4 (.slice po' n1 pc') n1 (flatP ps) ∧ (Value.slice po' n1 pc').ownBlock ≠ some g3) := ⟨own_chg HOP.out.1 HE.out.2.2.2 HOP.out.2, HOP.out.2⟩
        have HOHa : Hid (U2.ownsRow w.heap.size 70 4 (.slice ho' n5 hc') n5 (flatP hs) ∧ (Value.slice ho' n5 hc').ownBlock ≠ some g3) := ⟨own_chg HOH.out.1 HE.out.2.2.2 HOH.out.2, HOH.out.2⟩
        have HOS0 := hideIt (And.intro HE.out.2.1 HE.out.2.2.1)
        clear HE HS HCR hgU
        go_wp2_with fail
        clear a0 a1 a2 a3 a4 a5 a6 a7 a8 a9 az
        go_loopw [5] (fun i wr => ∃ (k : Nat) (wo' : Option Addr) (wc' : Nat), k ≤ n3 ∧ i = .int .i64 k ∧ Hid (wr.heap[g3]? = some (bWd (.int .i64 bud) (.slice po' n1 pc') (.slice so' n2 sc') (.slice wo' k wc') (.slice none 0 0) (.bool false) (.bool false) (.int .i64 nx) (.int .i64 hb) (.slice ho' n5 hc')) ∧ wr.ownsRow U2.heap.size 76 2 (.slice wo' k wc') k (flatW (ws.take k)) ∧ Chg (fun y => y = g3) U2 wr)) (fun i _ => n3 - (intOf i).toNat)
        case atStart => exact ⟨0, none, 0, Nat.zero_le _, rfl, HCP1.out.h2, World.ownsRow_nil _ _ _ _, Chg.refl _ _⟩
        case round =>
          obtain ⟨k, wo', wc', hk, rfl, HS⟩ := hrel
          have HCR := hideIt (HCP1.out.chg HS.out.2.2 HS.out.1)
          have hgU : g3 < U2.heap.size := (Array.getElem?_eq_some_iff.1 HCP1.out.h2).1
          have hUr := HS.out.2.2.size
          have hlo := HCP1.out.lo
          obtain ⟨a0, a1, a2, a3, a4, a5, a6, a7, a8, a9, az⟩ := blk10 HCR.out.h0
          by_cases hlt : k < n3
          · obtain ⟨⟨x0, x1⟩, hx⟩ : ∃ x, ws[k]? = some x := ⟨_, List.getElem?_eq_getElem (by rw [HR.out.2.2.2.1]; exact hlt)⟩
            obtain ⟨bl, off, hao, hbl, d0, d1⟩ := wt_at HR.out.2.2.1 hx
            subst hao
            have HX : Hid (ws.take (k + 1) = ws.take k ++ [⟨x0, x1⟩]) := by
              obtain ⟨hk', e⟩ := List.getElem?_eq_some_iff.1 hx
              show _ = _
              rw [List.take_succ_eq_append_getElem hk', e]
            have HK : Hid (∀ w1 : World, (∀ b, b < wr.heap.size → some b ≠ (Value.slice wo' k wc').ownBlock → w1.heap[b]? = wr.heap[b]?) → w1.cell? ⟨g3, 3, none⟩ = some (.slice wo' k wc') ∧ w1.frozen? ⟨g3, 3, none⟩ = false ∧ w1.cell? ⟨w.heap.size, 3, none⟩ = some (.slice (some ⟨bl, off, none⟩) n3 wc) ∧ w1.cell? ⟨bl, off + k * 2, none⟩ = some (.int .i64 x0) ∧ w1.cell? ⟨bl, off + k * 2 + 1, none⟩ = some (.string x1)) := by
              intro w1 hw
              have h := rk HS.out.2.2 HS.out.2.1 hw
              have e3 := (h g3 hgU).trans HS.out.1
              have e0 := (h w.heap.size (by omega)).trans HCR.out.h0
              have eb : w1.heap[bl]? = w.heap[bl]? := (h bl (by omega)).trans (HCR.out.bel.block bl hbl)
              exact ⟨(blk10 e3).2.2.2.1, (blk10 e3).2.2.2.2.2.2.2.2.2.2 3, (blk10 e0).2.2.2.1, (World.cell?_of_block eb).trans d0, (World.cell?_of_block eb).trans d1⟩
            clear hx a0 a1 a2 a3 a4 a5 a6 a7 a8 a9 az d0 d1
            have hlti : (k : Int) < (n3 : Int) := by omega
            have h0i : (0 : Int) ≤ (k : Int) := by omega
            obtain ⟨p0, p1, p2, p3, p4⟩ := HK.out wr (fun _ _ _ => rfl)
            have hownd := HS.out.2.1
            have sA : ∀ o, (wr.alloc o).cell? ⟨g3, 3, none⟩ = some (.slice wo' k wc') := fun o => (HK.out (wr.alloc o) (fun j hj _ => heap_alloc_lt' _ _ hj)).1
            obtain ⟨t0, hi, hz0, hz1, hz2⟩ := info_parts infr_W
            go_upto_region 10 with fail
            go_region_law
              ((refine step_append_lies _ (by rfl) (.tmp 50) (.tmp 57) 33 (by rfl) U2.heap.size 76 t0 _ 2 24 Tryz.underlying33 hi hz0 hz1 hz2 (by rfl) (by decide) _ k (flatW (ws.take k)) (by rfl) (hownd.alloc _) ⟨wr.heap.size, 0, none⟩ 1 1 [.int .i64 x0, .string x1] (by rfl) (by rfl) (cells_new _ [.int .i64 x0, .string x1] _) (by intro u hu; simp at hu; rcases hu with rfl | rfl <;> rfl) (by omega) (by unfold maxLen; omega) (by omega) (by simp; omega) (wr.heap.size + 1) (by simp) ?_; intro g6 cap6 w6 hown6 hgrow6 hat6 hlt6; obtain ⟨q0, q1, _⟩ := HK.out w6 (fun j hj hne => (hgrow6.block j (by simp; omega) hne).trans (heap_alloc_lt' _ _ hj))))
            all_goals
              have HJ6 : Hid ((w6.setCell ⟨g3, 3, none⟩ (.slice (some ⟨g6, 0, none⟩) (k + 1) cap6)).heap[g3]? = some (bWd (.int .i64 bud) (.slice po' n1 pc') (.slice so' n2 sc') (.slice (some ⟨g6, 0, none⟩) (k + 1) cap6) (.slice none 0 0) (.bool false) (.bool false) (.int .i64 nx) (.int .i64 hb) (.slice ho' n5 hc')) ∧ (w6.setCell ⟨g3, 3, none⟩ (.slice (some ⟨g6, 0, none⟩) (k + 1) cap6)).ownsRow U2.heap.size 76 2 (.slice (some ⟨g6, 0, none⟩) (k + 1) cap6) (k + 1) (flatW (ws.take (k + 1))) ∧ Chg (fun y => y = g3) U2 (w6.setCell ⟨g3, 3, none⟩ (.slice (some ⟨g6, 0, none⟩) (k + 1) cap6))) := by
                refine ⟨set10_3 ((rnd_low HS.out.2.2.drew hownd hgrow6 g3 hgU).trans HS.out.1) _, ?_, rnd_chg HS.out.2.2.drew hownd hgrow6⟩
                rw [HX.out]
                unfold flatW
                rw [List.flatMap_append]
                exact ownsRow_setCell_below hown6 hgU _
              clear hown6 hgrow6 hat6 q0 q1 p0 p1 p2 p3 p4 sA hownd
              go_wp2_with fail
              go_roundw
              case rel => exact ⟨k + 1, some ⟨g6, 0, none⟩, cap6, by omega, by go_num, HJ6.out⟩
              case measure => simp [intOf]; omega
          · have hkn : k = n3 := by omega
            have HE : Hid (CP w (bWd (.int .i64 bud) (.slice po n1 pc) (.slice so n2 sc) (.slice wo n3 wc) (.slice qo n4 tc) (.bool bg) (.bool bk) (.int .i64 nx) (.int .i64 hb) (.slice ho n5 hc)) g3 (bWd (.int .i64 bud) (.slice po' n1 pc') (.slice so' n2 sc') (.slice wo' n3 wc') (.slice none 0 0) (.bool false) (.bool false) (.int .i64 nx) (.int .i64 hb) (.slice ho' n5 hc')) wr ∧ wr.ownsRow w.heap.size 76 2 (.slice wo' n3 wc') n3 (flatW ws) ∧ (Value.slice wo' n3 wc').ownBlock ≠ some g3 ∧ Chg (fun y => y = g3) U2 wr) := by
              have h1 := HCR.out
              have h2 := HS.out.2.1
              rw [hkn] at h1 h2
              rw [List.take_of_length_le (by rw [HR.out.2.2.2.1]; exact Nat.le_refl _)] at h2
              refine ⟨h1, own_mono h2 HCP1.out.bel.size, fun e => ?_, HS.out.2.2⟩
              have := (h2.lt g3 e).1
              omega
            clear hkn hUr hlo
            obtain ⟨U3, rfl⟩ : ∃ U3, U3 = wr := ⟨_, rfl⟩
            have HCP2 := hideIt HE.out.1
            have HOPb : Hid (U3.ownsRow w.heap.size 70 4 (.slice po' n1 pc') n1 (flatP ps) ∧ (Value.slice po' n1 pc').ownBlock ≠ some g3) := ⟨own_chg HOPa.out.1 HE.out.2.2.2 HOPa.out.2, HOPa.out.2⟩
            have HOHb : Hid (U3.ownsRow w.heap.size 70 4 (.slice ho' n5 hc') n5 (flatP hs) ∧ (Value.slice ho' n5 hc').ownBlock ≠ some g3) := ⟨own_chg HOHa.out.1 HE.out.2.2.2 HOHa.out.2, HOHa.out.2⟩
            have HOS1 : Hid (U3.ownsRow w.heap.size 74 4 (.slice so' n2 sc') n2 (flatV ss) ∧ (Value.slice so' n2 sc').ownBlock ≠ some g3) := ⟨own_chg HOS0.out.1 HE.out.2.2.2 HOS0.out.2, HOS0.out.2⟩
            have HOW1 := hideIt (And.intro HE.out.2.1 HE.out.2.2.1)
            clear HE HS HCR hgU
            go_wp2_with fail
            clear a0 a1 a2 a3 a4 a5 a6 a7 a8 a9 az
            go_loopw [6] (fun i wr => ∃ (k : Nat) (qo' : Option Addr) (tc' : Nat), k ≤ n4 ∧ i = .int .i64 k ∧ Hid (wr.heap[g3]? = some (bWd (.int .i64 bud) (.slice po' n1 pc') (.slice so' n2 sc') (.slice wo' n3 wc') (.slice qo' k tc') (.bool false) (.bool false) (.int .i64 nx) (.int .i64 hb) (.slice ho' n5 hc')) ∧ wr.ownsRow U3.heap.size 72 3 (.slice qo' k tc') k (flatT (ts.take k)) ∧ Chg (fun y => y = g3) U3 wr)) (fun i _ => n4 - (intOf i).toNat)
            case atStart => exact ⟨0, none, 0, Nat.zero_le _, rfl, HCP2.out.h2, World.ownsRow_nil _ _ _ _, Chg.refl _ _⟩
            case round =>
              obtain ⟨k, qo', tc', hk, rfl, HS⟩ := hrel
              have HCR := hideIt (HCP2.out.chg HS.out.2.2 HS.out.1)
              have hgU : g3 < U3.heap.size := (Array.getElem?_eq_some_iff.1 HCP2.out.h2).1
              have hUr := HS.out.2.2.size
              have hlo := HCP2.out.lo
              obtain ⟨a0, a1, a2, a3, a4, a5, a6, a7, a8, a9, az⟩ := blk10 HCR.out.h0
              by_cases hlt : k < n4
              · obtain ⟨⟨x0, x1, x2⟩, hx⟩ : ∃ x, ts[k]? = some x := ⟨_, List.getElem?_eq_getElem (by rw [HR.out.2.2.2.2.2]; exact hlt)⟩
                obtain ⟨bl, off, hao, hbl, d0, d1, d2⟩ := st_at HR.out.2.2.2.2.1 hx
                subst hao
                have HX : Hid (ts.take (k + 1) = ts.take k ++ [⟨x0, x1, x2⟩]) := by
                  obtain ⟨hk', e⟩ := List.getElem?_eq_some_iff.1 hx
                  show _ = _
                  rw [List.take_succ_eq_append_getElem hk', e]
                have HK : Hid (∀ w1 : World, (∀ b, b < wr.heap.size → some b ≠ (Value.slice qo' k tc').ownBlock → w1.heap[b]? = wr.heap[b]?) → w1.cell? ⟨g3, 4, none⟩ = some (.slice qo' k tc') ∧ w1.frozen? ⟨g3, 4, none⟩ = false ∧ w1.cell? ⟨w.heap.size, 4, none⟩ = some (.slice (some ⟨bl, off, none⟩) n4 tc) ∧ w1.cell? ⟨bl, off + k * 3, none⟩ = some (.int .i64 x0) ∧ w1.cell? ⟨bl, off + k * 3 + 1, none⟩ = some (.string x1) ∧ w1.cell? ⟨bl, off + k * 3 + 2, none⟩ = some (.int .i64 x2)) := by
                  intro w1 hw
                  have h := rk HS.out.2.2 HS.out.2.1 hw
                  have e3 := (h g3 hgU).trans HS.out.1
                  have e0 := (h w.heap.size (by omega)).trans HCR.out.h0
                  have eb : w1.heap[bl]? = w.heap[bl]? := (h bl (by omega)).trans (HCR.out.bel.block bl hbl)
                  exact ⟨(blk10 e3).2.2.2.2.1, (blk10 e3).2.2.2.2.2.2.2.2.2.2 4, (blk10 e0).2.2.2.2.1, (World.cell?_of_block eb).trans d0, (World.cell?_of_block eb).trans d1, (World.cell?_of_block eb).trans d2⟩
                clear hx a0 a1 a2 a3 a4 a5 a6 a7 a8 a9 az d0 d1 d2
                have hlti : (k : Int) < (n4 : Int) := by omega
                have h0i : (0 : Int) ≤ (k : Int) := by omega
                obtain ⟨p0, p1, p2, p3, p4, p5⟩ := HK.out wr (fun _ _ _ => rfl)
                have hownd := HS.out.2.1
                have sA : ∀ o, (wr.alloc o).cell? ⟨g3, 4, none⟩ = some (.slice qo' k tc') := fun o => (HK.out (wr.alloc o) (fun j hj _ => heap_alloc_lt' _ _ hj)).1
                obtain ⟨t0, hi, hz0, hz1, hz2⟩ := info_parts infr_T
                go_upto_region 14 with fail
                go_region_law
                  ((refine step_append_lies _ (by rfl) (.tmp 71) (.tmp 78) 34 (by rfl) U3.heap.size 72 t0 _ 3 32 Tryz.underlying34 hi hz0 hz1 hz2 (by rfl) (by decide) _ k (flatT (ts.take k)) (by rfl) (hownd.alloc _) ⟨wr.heap.size, 0, none⟩ 1 1 [.int .i64 x0, .string x1, .int .i64 x2] (by rfl) (by rfl) (cells_new _ [.int .i64 x0, .string x1, .int .i64 x2] _) (by intro u hu; simp at hu; rcases hu with rfl | rfl | rfl <;> rfl) (by omega) (by unfold maxLen; omega) (by omega) (by simp; omega) (wr.heap.size + 1) (by simp) ?_; intro g6 cap6 w6 hown6 hgrow6 hat6 hlt6; obtain ⟨q0, q1, _⟩ := HK.out w6 (fun j hj hne => (hgrow6.block j (by simp; omega) hne).trans (heap_alloc_lt' _ _ hj))))
                all_goals
                  have HJ6 : Hid ((w6.setCell ⟨g3, 4, none⟩ (.slice (some ⟨g6, 0, none⟩) (k + 1) cap6)).heap[g3]? = some (bWd (.int .i64 bud) (.slice po' n1 pc') (.slice so' n2 sc') (.slice wo' n3 wc') (.slice (some ⟨g6, 0, none⟩) (k + 1) cap6) (.bool false) (.bool false) (.int .i64 nx) (.int .i64 hb) (.slice ho' n5 hc')) ∧ (w6.setCell ⟨g3, 4, none⟩ (.slice (some ⟨g6, 0, none⟩) (k + 1) cap6)).ownsRow U3.heap.size 72 3 (.slice (some ⟨g6, 0, none⟩) (k + 1) cap6) (k + 1) (flatT (ts.take (k + 1))) ∧ Chg (fun y => y = g3) U3 (w6.setCell ⟨g3, 4, none⟩ (.slice (some ⟨g6, 0, none⟩) (k + 1) cap6))) := by
                    refine ⟨set10_4 ((rnd_low HS.out.2.2.drew hownd hgrow6 g3 hgU).trans HS.out.1) _, ?_, rnd_chg HS.out.2.2.drew hownd hgrow6⟩
                    rw [HX.out]
                    unfold flatT
                    rw [List.flatMap_append]
                    exact ownsRow_setCell_below hown6 hgU _
                  clear hown6 hgrow6 hat6 q0 q1 p0 p1 p2 p3 p4 p5 sA hownd
                  go_wp2_with fail
                  go_roundw
                  case rel => exact ⟨k + 1, some ⟨g6, 0, none⟩, cap6, by omega, by go_num, HJ6.out⟩
                  case measure => simp [intOf]; omega
              · have hkn : k = n4 := by omega
                have HE : Hid (CP w (bWd (.int .i64 bud) (.slice po n1 pc) (.slice so n2 sc) (.slice wo n3 wc) (.slice qo n4 tc) (.bool bg) (.bool bk) (.int .i64 nx) (.int .i64 hb) (.slice ho n5 hc)) g3 (bWd (.int .i64 bud) (.slice po' n1 pc') (.slice so' n2 sc') (.slice wo' n3 wc') (.slice qo' n4 tc') (.bool false) (.bool false) (.int .i64 nx) (.int .i64 hb) (.slice ho' n5 hc')) wr ∧ wr.ownsRow w.heap.size 72 3 (.slice qo' n4 tc') n4 (flatT ts) ∧ (Value.slice qo' n4 tc').ownBlock ≠ some g3 ∧ Chg (fun y => y = g3) U3 wr) := by
                  have h1 := HCR.out
                  have h2 := HS.out.2.1
                  rw [hkn] at h1 h2
                  rw [List.take_of_length_le (by rw [HR.out.2.2.2.2.2]; exact Nat.le_refl _)] at h2
                  refine ⟨h1, own_mono h2 HCP2.out.bel.size, fun e => ?_, HS.out.2.2⟩
                  have := (h2.lt g3 e).1
                  omega
                clear hkn hUr hlo
                obtain ⟨U4, rfl⟩ : ∃ U4, U4 = wr := ⟨_, rfl⟩
                have HCP3 := hideIt HE.out.1
                have HOPc : Hid (U4.ownsRow w.heap.size 70 4 (.slice po' n1 pc') n1 (flatP ps) ∧ (Value.slice po' n1 pc').ownBlock ≠ some g3) := ⟨own_chg HOPb.out.1 HE.out.2.2.2 HOPb.out.2, HOPb.out.2⟩
                have HOHc : Hid (U4.ownsRow w.heap.size 70 4 (.slice ho' n5 hc') n5 (flatP hs) ∧ (Value.slice ho' n5 hc').ownBlock ≠ some g3) := ⟨own_chg HOHb.out.1 HE.out.2.2.2 HOHb.out.2, HOHb.out.2⟩
                have HOS2 : Hid (U4.ownsRow w.heap.size 74 4 (.slice so' n2 sc') n2 (flatV ss) ∧ (Value.slice so' n2 sc').ownBlock ≠ some g3) := ⟨own_chg HOS1.out.1 HE.out.2.2.2 HOS1.out.2, HOS1.out.2⟩
                have HOW2 : Hid (U4.ownsRow w.heap.size 76 2 (.slice wo' n3 wc') n3 (flatW ws) ∧ (Value.slice wo' n3 wc').ownBlock ≠ some g3) := ⟨own_chg HOW1.out.1 HE.out.2.2.2 HOW1.out.2, HOW1.out.2⟩
                have HOT2 := hideIt (And.intro HE.out.2.1 HE.out.2.2.1)
                clear HE HS HCR hgU
                clear a0 a1 a2 a3 a4 a5 a6 a7 a8 a9 az
                obtain ⟨V5, hV5⟩ : ∃ V5, V5 = U4.setCell ⟨g3, 5, none⟩ (.bool bg) := ⟨_, rfl⟩
                have HC4 := hideIt (HCP3.out.chg (Chg.set (F := fun y => y = g3) U4 g3 5 (.bool bg) rfl) (set10_5 HCP3.out.h2 (.bool bg)))
                have HC5 := hideIt (HC4.out.chg (Chg.set (F := fun y => y = g3) _ g3 6 (.bool bk) rfl) (set10_6 HC4.out.h2 (.bool bk)))
                have HO5 : Hid ((V5.setCell ⟨g3, 6, none⟩ (.bool bk)).ownsRow w.heap.size 70 4 (.slice po' n1 pc') n1 (flatP ps) ∧ (V5.setCell ⟨g3, 6, none⟩ (.bool bk)).ownsRow w.heap.size 74 4 (.slice so' n2 sc') n2 (flatV ss) ∧ (V5.setCell ⟨g3, 6, none⟩ (.bool bk)).ownsRow w.heap.size 76 2 (.slice wo' n3 wc') n3 (flatW ws) ∧ (V5.setCell ⟨g3, 6, none⟩ (.bool bk)).ownsRow w.heap.size 72 3 (.slice qo' n4 tc') n4 (flatT ts) ∧ (V5.setCell ⟨g3, 6, none⟩ (.bool bk)).ownsRow w.heap.size 70 4 (.slice ho' n5 hc') n5 (flatP hs)) := by
                  rw [hV5]
                  exact ⟨own_set1 (own_set1 HOPc.out.1 HOPc.out.2) HOPc.out.2, own_set1 (own_set1 HOS2.out.1 HOS2.out.2) HOS2.out.2, own_set1 (own_set1 HOW2.out.1 HOW2.out.2) HOW2.out.2, own_set1 (own_set1 HOT2.out.1 HOT2.out.2) HOT2.out.2, own_set1 (own_set1 HOHc.out.1 HOHc.out.2) HOHc.out.2⟩
                rw [← hV5] at HC4 HC5
                have HV5 := hideIt hV5
                clear hV5
                obtain ⟨a0, a1, a2, a3, a4, a5, a6, a7, a8, a9, az⟩ := blk10 HCP3.out.h0
                obtain ⟨e0, e1, e2, e3, e4, e5, e6, e7, e8, e9, ez⟩ := blk10 HCP3.out.h2
                go_upto_region 16 with fail
                rw [← HV5.out]
                clear a0 a1 a2 a3 a4 a5 a6 a7 a8 a9 az e0 e1 e2 e3 e4 e5 e6 e7 e8 e9 ez
                obtain ⟨a0, a1, a2, a3, a4, a5, a6, a7, a8, a9, az⟩ := blk10 HC4.out.h0
                obtain ⟨e0, e1, e2, e3, e4, e5, e6, e7, e8, e9, ez⟩ := blk10 HC4.out.h2
                obtain ⟨V6, hV6⟩ : ∃ V6, V6 = V5.setCell ⟨g3, 6, none⟩ (.bool bk) := ⟨_, rfl⟩
                rw [← hV6] at HC5 HO5
                have HV6 := hideIt hV6
                clear hV6
                go_upto_region 17 with fail
                rw [← HV6.out]
                clear a0 a1 a2 a3 a4 a5 a6 a7 a8 a9 az e0 e1 e2 e3 e4 e5 e6 e7 e8 e9 ez
                obtain ⟨e0, e1, e2, e3, e4, e5, e6, e7, e8, e9, ez⟩ := blk10 HC5.out.h2
                obtain ⟨r0, r1, r2, r3, r4, r5, r6, r7, r8, r9, rz⟩ := blk10 HC5.out.h1
                have HFW : Hid ((((((((((((V6.setCell ⟨w.heap.size + 1, 0, none⟩ (.int .i64 bud)).setCell ⟨w.heap.size + 1, 1, none⟩ (.slice po' n1 pc')).setCell ⟨w.heap.size + 1, 2, none⟩ (.slice so' n2 sc')).setCell ⟨w.heap.size + 1, 3, none⟩ (.slice wo' n3 wc')).setCell ⟨w.heap.size + 1, 4, none⟩ (.slice qo' n4 tc')).setCell ⟨w.heap.size + 1, 5, none⟩ (.bool bg)).setCell ⟨w.heap.size + 1, 6, none⟩ (.bool bk)).setCell ⟨w.heap.size + 1, 7, none⟩ (.int .i64 nx)).setCell ⟨w.heap.size + 1, 8, none⟩ (.int .i64 hb)).setCell ⟨w.heap.size + 1, 9, none⟩ (.slice ho' n5 hc'))).heap[w.heap.size + 1]? = some (bWd (.int .i64 bud) (.slice po' n1 pc') (.slice so' n2 sc') (.slice wo' n3 wc') (.slice qo' n4 tc') (.bool bg) (.bool bk) (.int .i64 nx) (.int .i64 hb) (.slice ho' n5 hc'))) := st10_heap HC5.out.h1 _ _ _ _ _ _ _ _ _ _
                have HFB : Hid (Below w.heap.size w (((((((((((V6.setCell ⟨w.heap.size + 1, 0, none⟩ (.int .i64 bud)).setCell ⟨w.heap.size + 1, 1, none⟩ (.slice po' n1 pc')).setCell ⟨w.heap.size + 1, 2, none⟩ (.slice so' n2 sc')).setCell ⟨w.heap.size + 1, 3, none⟩ (.slice wo' n3 wc')).setCell ⟨w.heap.size + 1, 4, none⟩ (.slice qo' n4 tc')).setCell ⟨w.heap.size + 1, 5, none⟩ (.bool bg)).setCell ⟨w.heap.size + 1, 6, none⟩ (.bool bk)).setCell ⟨w.heap.size + 1, 7, none⟩ (.int .i64 nx)).setCell ⟨w.heap.size + 1, 8, none⟩ (.int .i64 hb)).setCell ⟨w.heap.size + 1, 9, none⟩ (.slice ho' n5 hc')))) := st10_bel HC5.out.bel (by omega) _ _ _ _ _ _ _ _ _ _
                have HFO : Hid ((((((((((((V6.setCell ⟨w.heap.size + 1, 0, none⟩ (.int .i64 bud)).setCell ⟨w.heap.size + 1, 1, none⟩ (.slice po' n1 pc')).setCell ⟨w.heap.size + 1, 2, none⟩ (.slice so' n2 sc')).setCell ⟨w.heap.size + 1, 3, none⟩ (.slice wo' n3 wc')).setCell ⟨w.heap.size + 1, 4, none⟩ (.slice qo' n4 tc')).setCell ⟨w.heap.size + 1, 5, none⟩ (.bool bg)).setCell ⟨w.heap.size + 1, 6, none⟩ (.bool bk)).setCell ⟨w.heap.size + 1, 7, none⟩ (.int .i64 nx)).setCell ⟨w.heap.size + 1, 8, none⟩ (.int .i64 hb)).setCell ⟨w.heap.size + 1, 9, none⟩ (.slice ho' n5 hc'))).ownsRow w.heap.size 70 4 (.slice po' n1 pc') n1 (flatP ps) ∧ (((((((((((V6.setCell ⟨w.heap.size + 1, 0, none⟩ (.int .i64 bud)).setCell ⟨w.heap.size + 1, 1, none⟩ (.slice po' n1 pc')).setCell ⟨w.heap.size + 1, 2, none⟩ (.slice so' n2 sc')).setCell ⟨w.heap.size + 1, 3, none⟩ (.slice wo' n3 wc')).setCell ⟨w.heap.size + 1, 4, none⟩ (.slice qo' n4 tc')).setCell ⟨w.heap.size + 1, 5, none⟩ (.bool bg)).setCell ⟨w.heap.size + 1, 6, none⟩ (.bool bk)).setCell ⟨w.heap.size + 1, 7, none⟩ (.int .i64 nx)).setCell ⟨w.heap.size + 1, 8, none⟩ (.int .i64 hb)).setCell ⟨w.heap.size + 1, 9, none⟩ (.slice ho' n5 hc'))).ownsRow w.heap.size 74 4 (.slice so' n2 sc') n2 (flatV ss) ∧ (((((((((((V6.setCell ⟨w.heap.size + 1, 0, none⟩ (.int .i64 bud)).setCell ⟨w.heap.size + 1, 1, none⟩ (.slice po' n1 pc')).setCell ⟨w.heap.size + 1, 2, none⟩ (.slice so' n2 sc')).setCell ⟨w.heap.size + 1, 3, none⟩ (.slice wo' n3 wc')).setCell ⟨w.heap.size + 1, 4, none⟩ (.slice qo' n4 tc')).setCell ⟨w.heap.size + 1, 5, none⟩ (.bool bg)).setCell ⟨w.heap.size + 1, 6, none⟩ (.bool bk)).setCell ⟨w.heap.size + 1, 7, none⟩ (.int .i64 nx)).setCell ⟨w.heap.size + 1, 8, none⟩ (.int .i64 hb)).setCell ⟨w.heap.size + 1, 9, none⟩ (.slice ho' n5 hc'))).ownsRow w.heap.size 76 2 (.slice wo' n3 wc') n3 (flatW ws) ∧ (((((((((((V6.setCell ⟨w.heap.size + 1, 0, none⟩ (.int .i64 bud)).setCell ⟨w.heap.size + 1, 1, none⟩ (.slice po' n1 pc')).setCell ⟨w.heap.size + 1, 2, none⟩ (.slice so' n2 sc')).setCell ⟨w.heap.size + 1, 3, none⟩ (.slice wo' n3 wc')).setCell ⟨w.heap.size + 1, 4, none⟩ (.slice qo' n4 tc')).setCell ⟨w.heap.size + 1, 5, none⟩ (.bool bg)).setCell ⟨w.heap.size + 1, 6, none⟩ (.bool bk)).setCell ⟨w.heap.size + 1, 7, none⟩ (.int .i64 nx)).setCell ⟨w.heap.size + 1, 8, none⟩ (.int .i64 hb)).setCell ⟨w.heap.size + 1, 9, none⟩ (.slice ho' n5 hc'))).ownsRow w.heap.size 72 3 (.slice qo' n4 tc') n4 (flatT ts) ∧ (((((((((((V6.setCell ⟨w.heap.size + 1, 0, none⟩ (.int .i64 bud)).setCell ⟨w.heap.size + 1, 1, none⟩ (.slice po' n1 pc')).setCell ⟨w.heap.size + 1, 2, none⟩ (.slice so' n2 sc')).setCell ⟨w.heap.size + 1, 3, none⟩ (.slice wo' n3 wc')).setCell ⟨w.heap.size + 1, 4, none⟩ (.slice qo' n4 tc')).setCell ⟨w.heap.size + 1, 5, none⟩ (.bool bg)).setCell ⟨w.heap.size + 1, 6, none⟩ (.bool bk)).setCell ⟨w.heap.size + 1, 7, none⟩ (.int .i64 nx)).setCell ⟨w.heap.size + 1, 8, none⟩ (.int .i64 hb)).setCell ⟨w.heap.size + 1, 9, none⟩ (.slice ho' n5 hc'))).ownsRow w.heap.size 70 4 (.slice ho' n5 hc') n5 (flatP hs)) :=
                  ⟨own_st10 HO5.out.1 (own_ne10 HO5.out.1 HC5.out.h1 (by decide)) _ _ _ _ _ _ _ _ _ _, own_st10 HO5.out.2.1 (own_ne10 HO5.out.2.1 HC5.out.h1 (by decide)) _ _ _ _ _ _ _ _ _ _, own_st10 HO5.out.2.2.1 (own_ne10 HO5.out.2.2.1 HC5.out.h1 (by decide)) _ _ _ _ _ _ _ _ _ _, own_st10 HO5.out.2.2.2.1 (own_ne10 HO5.out.2.2.2.1 HC5.out.h1 (by decide)) _ _ _ _ _ _ _ _ _ _, own_st10 HO5.out.2.2.2.2 (own_ne10 HO5.out.2.2.2.2 HC5.out.h1 (by decide)) _ _ _ _ _ _ _ _ _ _⟩
                go_wp2_with fail
                obtain ⟨FW, hFW⟩ : ∃ FW, ((((((((((V6.setCell ⟨w.heap.size + 1, 0, none⟩ (.int .i64 bud)).setCell ⟨w.heap.size + 1, 1, none⟩ (.slice po' n1 pc')).setCell ⟨w.heap.size + 1, 2, none⟩ (.slice so' n2 sc')).setCell ⟨w.heap.size + 1, 3, none⟩ (.slice wo' n3 wc')).setCell ⟨w.heap.size + 1, 4, none⟩ (.slice qo' n4 tc')).setCell ⟨w.heap.size + 1, 5, none⟩ (.bool bg)).setCell ⟨w.heap.size + 1, 6, none⟩ (.bool bk)).setCell ⟨w.heap.size + 1, 7, none⟩ (.int .i64 nx)).setCell ⟨w.heap.size + 1, 8, none⟩ (.int .i64 hb)).setCell ⟨w.heap.size + 1, 9, none⟩ (.slice ho' n5 hc')) = FW := ⟨_, rfl⟩
                rw [hFW] at HFW HFB HFO ⊢
                obtain ⟨f0, f1, f2, f3, f4, f5, f6, f7, f8, f9, fz⟩ := blk10 HFW.out
                clear hFW
                refine bodyPost_ret (v := .agg #[.int .i64 bud, .slice po' n1 pc', .slice so' n2 sc', .slice wo' n3 wc', .slice qo' n4 tc', .bool bg, .bool bk, .int .i64 nx, .int .i64 hb, .slice ho' n5 hc']) (by simp [results, Tryz.results45, go_sem, f0, f1, f2, f3, f4, f5, f6, f7, f8, f9]) rfl ⟨po', pc', so', sc', wo', wc', qo', tc', ho', hc', rfl, HFO.out.1, HFO.out.2.1, HFO.out.2.2.1, HFO.out.2.2.2.1, HFO.out.2.2.2.2, HFB.out⟩
end Lw
end Go.Proofs.YtmmmjpkhnbfnbaaGreat
