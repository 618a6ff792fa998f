
import Derived.Test.YtehehkahmpbjhaaDoorWrA
import Derived.Test.YtehehkahmpbjhaaDoorKpE
import Derived.Test.YtehehkahmpbjhaaDoorCoR
namespace Go.Proofs.YtehehkahmpbjhaaDoor
open Go.RowKit
namespace Co

theorem last_mem {ps : List Pl} (h : ps ≠ []) : ∃ q ∈ ps, q.nm = lastN ps := by
  unfold lastN
  rw [List.getLast?_eq_some_getLast h]
  exact ⟨_, List.getLast_mem h, rfl⟩

set_option maxRecDepth 20000 in
set_option maxHeartbeats 2000000 in
theorem written_any (b : Int) (xs : List Pl) (ao : Option Addr) (cap n : Nat) (w : World) (hr : RowAt w (.slice ao n cap) n (flatP xs)) (hn : xs.length = n) (hn1 : n ≤ maxLen) (hb : I64 b) (hx : ∀ x ∈ xs, I64 x.sz ∧ I64 x.wt ∧ I64 x.fr) (htab : Pr.Tab w) :
    Calls Tryd.prog 3 #[.agg #[.int .i64 b, .slice ao n cap]] w fun e w' => e = .returned (.bool true) ∧ Below w.heap.size w w' := by
  have HB := hideIt (Bent_any b xs ao cap n (w.alloc (bTab b (.slice ao n cap))) (hr.nx (nx_alloc _ _)) hn hn1 hb hx)
  have HTAB := hideIt htab
  clear hr hn hn1 hb hx htab
  go_enter Tryd.func3, Tryd.ntmps3
  go_wp2_with fail
  refine HB.out.mono ?_
  rintro e w1 ⟨r, ps, vo, vc, hok, rfl, hown, hb1⟩
  obtain ⟨m, hm⟩ : ∃ m, ps.length = m := ⟨_, rfl⟩
  rw [hm] at hown ⊢
  have hm6 : m ≤ 6 := by rw [← hm]; exact hok.len
  have H1 : Hid (Okt r ps ∧ ps.length = m ∧ Below w.heap.size w w1 ∧ w.heap.size < w1.heap.size) := ⟨hok, hm, nx_trans (nx_alloc _ _) hb1, sz_lt hb1⟩
  have HW : Hid (RowAt (w1.alloc (bTab r (.slice vo m vc))) (.slice vo m vc) m (flatP ps) ∧ (w1.alloc (bTab r (.slice vo m vc))).heap[w1.heap.size]? = some (bTab r (.slice vo m vc)) ∧ Below w.heap.size w (w1.alloc (bTab r (.slice vo m vc))) ∧ w1.heap.size < (w1.alloc (bTab r (.slice vo m vc))).heap.size) :=
    ⟨(own_row hown).nx (nx_alloc _ _), heap_alloc_at _ _ rfl, nx_trans H1.out.2.2.1 (nx_alloc _ _), by simp⟩
  have HP := hideIt (Pr.pprint_any r vo vc m (ps.map cv) (w1.alloc (bTab r (.slice vo m vc))) (pools_of HW.out.1 H1.out.1.ok) (by rw [List.length_map, H1.out.2.1]) (by unfold maxLen; omega) (HTAB.out.nx HW.out.2.2.1))
  rw [print_ok hok] at HP
  obtain ⟨s, hs⟩ : ∃ s, Pr.prT r (ps.map cv) = s := ⟨_, rfl⟩
  rw [hs] at HP
  have hsl : tl s = textL st0 (lastN ps) r (ordP st0 ps) := by rw [← hs]; exact print_plain hok (lastN ps)
  obtain ⟨hans, hsz⟩ := ans_text st0 (lastN ps) hok (fun h => last_mem h) s hsl
  have HA := hideIt hans
  have HSL := hideIt hsl
  clear hok hm hown hb1 HB hs hans hsl
  go_wp2_with fail
  refine HP.out.mono ?_
  rintro e w3 ⟨rfl, hb3⟩
  have H3 : Hid (RowAt w3 (.slice vo m vc) m (flatP ps) ∧ w3.heap[w1.heap.size]? = some (bTab r (.slice vo m vc)) ∧ Below w.heap.size w w3 ∧ w1.heap.size < w3.heap.size) :=
    ⟨HW.out.1.nx hb3, (hb3.block _ HW.out.2.2.2).trans HW.out.2.1, nx_trans HW.out.2.2.1 hb3, Nat.lt_of_lt_of_le HW.out.2.2.2 hb3.size⟩
  have HT := hideIt (text_any r ps vo vc m 0 w3 H3.out.1 H1.out.2.1 H1.out.1 ⟨by omega, by omega⟩)
  rw [st_zero] at HT
  obtain ⟨e0, e1, ez⟩ := blk2 H3.out.2.1
  clear hb3 HP
  go_wp2_with fail
  refine HT.out.mono ?_
  rintro e w4 ⟨⟨s2, hs2, rfl⟩, hb4⟩
  obtain rfl : s2 = s := ba_ext (by rw [show s2.data.toList = tl s2 from rfl, hs2, ← HSL.out])
  have H4 : Hid (RowAt w4 (.slice vo m vc) m (flatP ps) ∧ w4.heap[w1.heap.size]? = some (bTab r (.slice vo m vc)) ∧ Below w.heap.size w w4 ∧ w1.heap.size < w4.heap.size) :=
    ⟨H3.out.1.nx hb4, (hb4.block _ H3.out.2.2.2).trans H3.out.2.1, nx_trans H3.out.2.2.1 hb4, Nat.lt_of_lt_of_le H3.out.2.2.2 hb4.size⟩
  have HC := hideIt (pcompile_any s2 w4 (Nat.le_trans hsz (by unfold maxLen; omega)))
  clear hs2 hb4 HT e0 e1 ez
  go_wp2_with fail
  refine HC.out.mono ?_
  rintro e w5 ⟨vo4, vc4, rfl, hown4, hb5⟩
  rw [HA.out] at hown4 ⊢
  simp only at hown4 ⊢
  rw [H1.out.2.1] at hown4 ⊢
  have H5 : Hid (RowAt w5 (.slice vo m vc) m (flatP ps) ∧ w5.heap[w1.heap.size]? = some (bTab r (.slice vo m vc)) ∧ Below w.heap.size w w5 ∧ w1.heap.size < w5.heap.size ∧ RowAt w5 (.slice vo4 m vc4) m (flatP ps)) :=
    ⟨H4.out.1.nx hb5, (hb5.block _ H4.out.2.2.2).trans H4.out.2.1, nx_trans H4.out.2.2.1 hb5, Nat.lt_of_lt_of_le H4.out.2.2.2 hb5.size, own_row hown4⟩
  obtain ⟨e0, e1, ez⟩ := blk2 ((heap_alloc_lt w5 (bTab r (.slice vo4 m vc4)) H5.out.2.2.2.1).trans H5.out.2.1)
  have HS := hideIt (ksame_true r vo vo4 m vc vc4 ps (w5.alloc (bTab r (.slice vo4 m vc4))) (H5.out.1.nx (nx_alloc _ _)) (H5.out.2.2.2.2.nx (nx_alloc _ _)) H1.out.2.1 (by unfold maxLen; omega))
  clear hown4 hb5 HC
  go_wp2_with fail
  refine HS.out.mono ?_
  rintro e w6 ⟨rfl, hb6⟩
  go_wp2_with fail
  go_ret
  exact ⟨rfl, nx_trans H5.out.2.2.1 (nx_trans (nx_alloc _ _) hb6)⟩
end Co
end Go.Proofs.YtehehkahmpbjhaaDoor
