import Derived.Test.YtohbonfngeblkaaGreatMnAe
namespace Go.Proofs.YtohbonfngeblkaaGreat
open Go.RowKit
namespace Lw
open Co
def takeT (k : Int) (nm : ByteArray) (n : Int) (b : Int) (ps : List Pl) : Int × List Pl :=
  if k = 3 ∨ k = 7 then (n, ps) else if k = 2 then (b, ps.filter (othN nm)) else if k = 4 then (b, insP ⟨nm, 0, 0, 0⟩ ps) else if k = 1 ∨ k = 5 ∨ k = 6 ∨ k = 8 then (b, chgP k nm n ps) else (b, ps)
def TakeG (T : Int × List Pl) (w w' : World) (e : Ending) : Prop :=
  ∃ vo vc, e = .returned (.agg #[.int .i64 T.1, .slice vo T.2.length vc]) ∧ w'.ownsRow w.heap.size 75 4 (.slice vo T.2.length vc) T.2.length (flatP T.2) ∧ Below w.heap.size w w'
theorem insP_len2 (x : Pl) (ps : List Pl) : (insP x ps).length = ps.length + 1 := insP_len x ps
theorem chgP_len (k : Int) (nm : ByteArray) (n : Int) (ps : List Pl) : (chgP k nm n ps).length ≤ ps.length + 1 := by
  unfold chgP
  rw [insP_len]
  have := List.length_filter_le (othN nm) ps
  omega
set_option maxRecDepth 20000 in
set_option maxHeartbeats 4000000 in
theorem take1 (b : Int) (so : Option Addr) (n2 sc : Nat) (nm : ByteArray) (n : Int) (ps : List Pl) (w : World) (hr : w.ownsRow 0 75 4 (.slice so n2 sc) n2 (flatP ps)) (hn : ps.length = n2) (hq : n2 ≤ 1000) :
    Calls Tryz.prog 102 #[.agg #[.int .i64 b, .slice so n2 sc], stA 1 nm n] w fun e w' => TakeG (takeT 1 nm n b ps) w w' e := by
  have HT : Hid (takeT 1 nm n b ps = (b, (chgP 1 nm n ps))) := by
    show _ = _
    unfold takeT
    simp
  obtain ⟨W0, hW0⟩ : ∃ W0, W0 = ((w.alloc (bTab b (.slice so n2 sc))).alloc (bSt 1 nm n)).alloc (bTab 0 (.slice none 0 0)) := ⟨_, rfl⟩
  have hb0 : Below w.heap.size w W0 := by rw [hW0]; exact nx_trans (nx_trans (nx_alloc _ _) (nx_alloc _ _)) (nx_alloc _ _)
  have K0 : Hid (W0 = ((w.alloc (bTab b (.slice so n2 sc))).alloc (bSt 1 nm n)).alloc (bTab 0 (.slice none 0 0)) ∧ W0.heap[w.heap.size]? = some (bTab b (.slice so n2 sc)) ∧ W0.heap[w.heap.size + 1]? = some (bSt 1 nm n) ∧ W0.heap[w.heap.size + 2]? = some (bTab 0 (.slice none 0 0)) ∧ Below w.heap.size w W0 ∧ w.heap.size + 3 = W0.heap.size) := by
    refine ⟨hW0, ?_, ?_, ?_, hb0, by rw [hW0]; simp⟩
    · rw [hW0]; exact (heap_alloc_lt _ _ (by simp; omega)).trans ((heap_alloc_lt _ _ (by simp)).trans (heap_alloc_at _ _ rfl))
    · rw [hW0]; exact (heap_alloc_lt _ _ (by simp)).trans (heap_alloc_at _ _ (by simp))
    · rw [hW0]; exact heap_alloc_at _ _ (by simp)
  have HO := hideIt hr
  have HLN := hideIt hn
  have HCL := hideIt (changed1 so n2 sc nm n ps W0 ((own_row hr).nx hb0) hn (by omega))
  clear hr hn hW0 hb0
  go_enter Tryz.func102, Tryz.ntmps102
  go_upto_region 1 with fail
  rw [← K0.out.1]
  obtain ⟨a0, a1, az⟩ := blk2 K0.out.2.1
  obtain ⟨b0, b1, b2, bz⟩ := blk3d K0.out.2.2.1
  go_wp2_with fail
  refine HCL.out.mono ?_
  rintro e w1 ⟨vo, vc, rfl, ho1, hb1⟩
  obtain ⟨m, hm⟩ : ∃ m, (chgP 1 nm n ps).length = m := ⟨_, rfl⟩
  rw [hm] at ho1 ⊢
  have HM := hideIt hm
  have hml : m ≤ 1001 := by
    rw [← hm]
    have := HLN.out
    have h2 := chgP_len 1 nm n ps
    omega
  have hz1 : w1.heap[w.heap.size]? = some (bTab b (.slice so n2 sc)) := (hb1.block _ (by have := K0.out.2.2.2.2.2; omega)).trans K0.out.2.1
  have hz3 : w1.heap[w.heap.size + 2]? = some (bTab 0 (.slice none 0 0)) := (hb1.block _ (by have := K0.out.2.2.2.2.2; omega)).trans K0.out.2.2.2.1
  obtain ⟨W3, hW3⟩ : ∃ W3, W3 = w1.setCell ⟨w.heap.size, 1, none⟩ (.slice vo m vc) := ⟨_, rfl⟩
  have K3 : Hid (W3 = w1.setCell ⟨w.heap.size, 1, none⟩ (.slice vo m vc) ∧ W3.heap[w.heap.size]? = some (bTab b (.slice vo m vc)) ∧ W3.heap[w.heap.size + 2]? = some (bTab 0 (.slice none 0 0)) ∧ Below w.heap.size w W3 ∧ w.heap.size + 3 ≤ W3.heap.size ∧ W3.ownsRow W0.heap.size 75 4 (.slice vo m vc) m (flatP (chgP 1 nm n ps))) :=
    ⟨hW3, by rw [hW3]; exact set_heap _ _ _ _ _ _ hz1, by rw [hW3]; exact (Below.heap_setCell _ _ _ _ (by show w.heap.size + 2 ≠ w.heap.size; omega)).trans hz3, by rw [hW3]; exact (nx_trans K0.out.2.2.2.2.1 hb1).setCell (Nat.le_refl _) _, by rw [hW3]; simp; have := K0.out.2.2.2.2.2; have := hb1.size; omega, by rw [hW3]; exact ownsRow_setCell_below ho1 (by show w.heap.size < W0.heap.size; have := K0.out.2.2.2.2.2; omega) _⟩
  have HCP := hideIt (copy_any b (chgP 1 nm n ps) vo m vc W3 (own_row K3.out.2.2.2.2.2) (own_nilc K3.out.2.2.2.2.2) HM.out (by omega))
  clear a0 a1 az b0 b1 b2 bz ho1 hm
  obtain ⟨a0, a1, az⟩ := blk2 hz1
  clear hb1 hz1 hz3 hW3
  go_upto_region 14 with fail
  rw [← K3.out.1]
  clear a0 a1 az
  obtain ⟨a0, a1, az⟩ := blk2 K3.out.2.1
  go_wp2_with fail
  refine HCP.out.mono ?_
  rintro e w5 ⟨po, pc, rfl, ho5, hb5⟩
  have hz5 : w5.heap[w.heap.size + 2]? = some (bTab 0 (.slice none 0 0)) := (hb5.block _ (Array.getElem?_eq_some_iff.1 K3.out.2.2.1).1).trans K3.out.2.2.1
  obtain ⟨y0, y1, yz⟩ := blk2 hz5
  have K5 : Hid (w5.ownsRow W3.heap.size 75 4 (.slice po m pc) m (flatP (chgP 1 nm n ps)) ∧ Below w.heap.size w w5 ∧ w.heap.size + 3 ≤ W3.heap.size) := ⟨ho5, nx_trans K3.out.2.2.2.1 hb5, K3.out.2.2.2.2.1⟩
  clear ho5 hb5 hz5 a0 a1 az
  go_wp2_with fail
  refine bodyPost_ret (v := .agg #[.int .i64 b, .slice po m pc]) (by simp [results, Tryz.results102, go_sem, y0, y1]) rfl ?_
  rw [HT.out]
  refine ⟨po, pc, ?_, ?_, ?_⟩
  · simp only [HM.out]
  · simp only [HM.out]
    exact own_mono (ownsRow_setCell_below (ownsRow_setCell_below K5.out.1 (by show w.heap.size + 2 < _; have := K5.out.2.2; omega) _) (by show w.heap.size + 2 < _; have := K5.out.2.2; omega) _) (by have := K5.out.2.2; omega)
  · have hg : w.heap.size ≤ w.heap.size + 2 := by omega
    exact (K5.out.2.1.setCell hg _).setCell hg _
set_option maxRecDepth 20000 in
set_option maxHeartbeats 4000000 in
theorem take2 (b : Int) (so : Option Addr) (n2 sc : Nat) (nm : ByteArray) (n : Int) (ps : List Pl) (w : World) (hr : w.ownsRow 0 75 4 (.slice so n2 sc) n2 (flatP ps)) (hn : ps.length = n2) (hq : n2 ≤ 1000) :
    Calls Tryz.prog 102 #[.agg #[.int .i64 b, .slice so n2 sc], stA 2 nm n] w fun e w' => TakeG (takeT 2 nm n b ps) w w' e := by
  have HT : Hid (takeT 2 nm n b ps = (b, (ps.filter (othN nm)))) := by
    show _ = _
    unfold takeT
    simp
  obtain ⟨W0, hW0⟩ : ∃ W0, W0 = ((w.alloc (bTab b (.slice so n2 sc))).alloc (bSt 2 nm n)).alloc (bTab 0 (.slice none 0 0)) := ⟨_, rfl⟩
  have hb0 : Below w.heap.size w W0 := by rw [hW0]; exact nx_trans (nx_trans (nx_alloc _ _) (nx_alloc _ _)) (nx_alloc _ _)
  have K0 : Hid (W0 = ((w.alloc (bTab b (.slice so n2 sc))).alloc (bSt 2 nm n)).alloc (bTab 0 (.slice none 0 0)) ∧ W0.heap[w.heap.size]? = some (bTab b (.slice so n2 sc)) ∧ W0.heap[w.heap.size + 1]? = some (bSt 2 nm n) ∧ W0.heap[w.heap.size + 2]? = some (bTab 0 (.slice none 0 0)) ∧ Below w.heap.size w W0 ∧ w.heap.size + 3 = W0.heap.size) := by
    refine ⟨hW0, ?_, ?_, ?_, hb0, by rw [hW0]; simp⟩
    · rw [hW0]; exact (heap_alloc_lt _ _ (by simp; omega)).trans ((heap_alloc_lt _ _ (by simp)).trans (heap_alloc_at _ _ rfl))
    · rw [hW0]; exact (heap_alloc_lt _ _ (by simp)).trans (heap_alloc_at _ _ (by simp))
    · rw [hW0]; exact heap_alloc_at _ _ (by simp)
  have HO := hideIt hr
  have HLN := hideIt hn
  have HCL := hideIt (cWithout so n2 sc nm ps W0 ((own_row hr).nx hb0) hn (by omega))
  clear hr hn hW0 hb0
  go_enter Tryz.func102, Tryz.ntmps102
  go_upto_region 1 with fail
  rw [← K0.out.1]
  obtain ⟨a0, a1, az⟩ := blk2 K0.out.2.1
  obtain ⟨b0, b1, b2, bz⟩ := blk3d K0.out.2.2.1
  go_wp2_with fail
  refine HCL.out.mono ?_
  rintro e w1 ⟨vo, vc, rfl, ho1, hb1⟩
  obtain ⟨m, hm⟩ : ∃ m, (ps.filter (othN nm)).length = m := ⟨_, rfl⟩
  rw [hm] at ho1 ⊢
  have HM := hideIt hm
  have hml : m ≤ 1001 := by
    rw [← hm]
    have := HLN.out
    have h2 := List.length_filter_le (othN nm) ps
    omega
  have hz1 : w1.heap[w.heap.size]? = some (bTab b (.slice so n2 sc)) := (hb1.block _ (by have := K0.out.2.2.2.2.2; omega)).trans K0.out.2.1
  have hz3 : w1.heap[w.heap.size + 2]? = some (bTab 0 (.slice none 0 0)) := (hb1.block _ (by have := K0.out.2.2.2.2.2; omega)).trans K0.out.2.2.2.1
  obtain ⟨W3, hW3⟩ : ∃ W3, W3 = w1.setCell ⟨w.heap.size, 1, none⟩ (.slice vo m vc) := ⟨_, rfl⟩
  have K3 : Hid (W3 = w1.setCell ⟨w.heap.size, 1, none⟩ (.slice vo m vc) ∧ W3.heap[w.heap.size]? = some (bTab b (.slice vo m vc)) ∧ W3.heap[w.heap.size + 2]? = some (bTab 0 (.slice none 0 0)) ∧ Below w.heap.size w W3 ∧ w.heap.size + 3 ≤ W3.heap.size ∧ W3.ownsRow W0.heap.size 75 4 (.slice vo m vc) m (flatP (ps.filter (othN nm)))) :=
    ⟨hW3, by rw [hW3]; exact set_heap _ _ _ _ _ _ hz1, by rw [hW3]; exact (Below.heap_setCell _ _ _ _ (by show w.heap.size + 2 ≠ w.heap.size; omega)).trans hz3, by rw [hW3]; exact (nx_trans K0.out.2.2.2.2.1 hb1).setCell (Nat.le_refl _) _, by rw [hW3]; simp; have := K0.out.2.2.2.2.2; have := hb1.size; omega, by rw [hW3]; exact ownsRow_setCell_below ho1 (by show w.heap.size < W0.heap.size; have := K0.out.2.2.2.2.2; omega) _⟩
  have HCP := hideIt (copy_any b (ps.filter (othN nm)) vo m vc W3 (own_row K3.out.2.2.2.2.2) (own_nilc K3.out.2.2.2.2.2) HM.out (by omega))
  clear a0 a1 az b0 b1 b2 bz ho1 hm
  obtain ⟨a0, a1, az⟩ := blk2 hz1
  clear hb1 hz1 hz3 hW3
  go_upto_region 14 with fail
  rw [← K3.out.1]
  clear a0 a1 az
  obtain ⟨a0, a1, az⟩ := blk2 K3.out.2.1
  go_wp2_with fail
  refine HCP.out.mono ?_
  rintro e w5 ⟨po, pc, rfl, ho5, hb5⟩
  have hz5 : w5.heap[w.heap.size + 2]? = some (bTab 0 (.slice none 0 0)) := (hb5.block _ (Array.getElem?_eq_some_iff.1 K3.out.2.2.1).1).trans K3.out.2.2.1
  obtain ⟨y0, y1, yz⟩ := blk2 hz5
  have K5 : Hid (w5.ownsRow W3.heap.size 75 4 (.slice po m pc) m (flatP (ps.filter (othN nm))) ∧ Below w.heap.size w w5 ∧ w.heap.size + 3 ≤ W3.heap.size) := ⟨ho5, nx_trans K3.out.2.2.2.1 hb5, K3.out.2.2.2.2.1⟩
  clear ho5 hb5 hz5 a0 a1 az
  go_wp2_with fail
  refine bodyPost_ret (v := .agg #[.int .i64 b, .slice po m pc]) (by simp [results, Tryz.results102, go_sem, y0, y1]) rfl ?_
  rw [HT.out]
  refine ⟨po, pc, ?_, ?_, ?_⟩
  · simp only [HM.out]
  · simp only [HM.out]
    exact own_mono (ownsRow_setCell_below (ownsRow_setCell_below K5.out.1 (by show w.heap.size + 2 < _; have := K5.out.2.2; omega) _) (by show w.heap.size + 2 < _; have := K5.out.2.2; omega) _) (by have := K5.out.2.2; omega)
  · have hg : w.heap.size ≤ w.heap.size + 2 := by omega
    exact (K5.out.2.1.setCell hg _).setCell hg _
set_option maxRecDepth 20000 in
set_option maxHeartbeats 4000000 in
theorem take3 (b : Int) (so : Option Addr) (n2 sc : Nat) (nm : ByteArray) (n : Int) (ps : List Pl) (w : World) (hr : w.ownsRow 0 75 4 (.slice so n2 sc) n2 (flatP ps)) (hn : ps.length = n2) (hq : n2 ≤ 1000) :
    Calls Tryz.prog 102 #[.agg #[.int .i64 b, .slice so n2 sc], stA 3 nm n] w fun e w' => TakeG (takeT 3 nm n b ps) w w' e := by
  have HT : Hid (takeT 3 nm n b ps = (n, ps)) := by
    show _ = _
    unfold takeT
    simp
  obtain ⟨W0, hW0⟩ : ∃ W0, W0 = ((w.alloc (bTab b (.slice so n2 sc))).alloc (bSt 3 nm n)).alloc (bTab 0 (.slice none 0 0)) := ⟨_, rfl⟩
  have hb0 : Below w.heap.size w W0 := by rw [hW0]; exact nx_trans (nx_trans (nx_alloc _ _) (nx_alloc _ _)) (nx_alloc _ _)
  have K0 : Hid (W0 = ((w.alloc (bTab b (.slice so n2 sc))).alloc (bSt 3 nm n)).alloc (bTab 0 (.slice none 0 0)) ∧ W0.heap[w.heap.size]? = some (bTab b (.slice so n2 sc)) ∧ W0.heap[w.heap.size + 1]? = some (bSt 3 nm n) ∧ W0.heap[w.heap.size + 2]? = some (bTab 0 (.slice none 0 0)) ∧ Below w.heap.size w W0 ∧ w.heap.size + 3 = W0.heap.size) := by
    refine ⟨hW0, ?_, ?_, ?_, hb0, by rw [hW0]; simp⟩
    · rw [hW0]; exact (heap_alloc_lt _ _ (by simp; omega)).trans ((heap_alloc_lt _ _ (by simp)).trans (heap_alloc_at _ _ rfl))
    · rw [hW0]; exact (heap_alloc_lt _ _ (by simp)).trans (heap_alloc_at _ _ (by simp))
    · rw [hW0]; exact heap_alloc_at _ _ (by simp)
  have HO := hideIt hr
  have HLN := hideIt hn
  clear hr hn hW0 hb0
  go_enter Tryz.func102, Tryz.ntmps102
  go_upto_region 1 with fail
  rw [← K0.out.1]
  obtain ⟨a0, a1, az⟩ := blk2 K0.out.2.1
  obtain ⟨b0, b1, b2, bz⟩ := blk3d K0.out.2.2.1
  obtain ⟨W3, hW3⟩ : ∃ W3, W3 = W0.setCell ⟨w.heap.size, 0, none⟩ (.int .i64 n) := ⟨_, rfl⟩
  have K3 : Hid (W3 = W0.setCell ⟨w.heap.size, 0, none⟩ (.int .i64 n) ∧ W3.heap[w.heap.size]? = some (bTab n (.slice so n2 sc)) ∧ W3.heap[w.heap.size + 2]? = some (bTab 0 (.slice none 0 0)) ∧ Below w.heap.size w W3 ∧ w.heap.size + 3 ≤ W3.heap.size) :=
    ⟨hW3, by rw [hW3]; exact set_heap _ _ _ _ _ _ K0.out.2.1, by rw [hW3]; exact (Below.heap_setCell _ _ _ _ (by show w.heap.size + 2 ≠ w.heap.size; omega)).trans K0.out.2.2.2.1, by rw [hW3]; exact K0.out.2.2.2.2.1.setCell (Nat.le_refl _) _, by rw [hW3]; simp; have := K0.out.2.2.2.2.2; omega⟩
  have HCP := hideIt (copy_any n ps so n2 sc W3 ((own_row HO.out).nx K3.out.2.2.2.1) (own_nilc HO.out) HLN.out (by omega))
  obtain ⟨m, hm⟩ : ∃ m, ps.length = m := ⟨_, rfl⟩
  have HM := hideIt hm
  have hmn : n2 = m := by rw [← hm, HLN.out]
  subst hmn
  clear hW3 hm
  go_upto_region 14 with fail
  rw [← K3.out.1]
  clear a0 a1 az b0 b1 b2 bz
  obtain ⟨a0, a1, az⟩ := blk2 K3.out.2.1
  go_wp2_with fail
  refine HCP.out.mono ?_
  rintro e w5 ⟨po, pc, rfl, ho5, hb5⟩
  have hz5 : w5.heap[w.heap.size + 2]? = some (bTab 0 (.slice none 0 0)) := (hb5.block _ (Array.getElem?_eq_some_iff.1 K3.out.2.2.1).1).trans K3.out.2.2.1
  obtain ⟨y0, y1, yz⟩ := blk2 hz5
  have K5 : Hid (w5.ownsRow W3.heap.size 75 4 (.slice po n2 pc) n2 (flatP ps) ∧ Below w.heap.size w w5 ∧ w.heap.size + 3 ≤ W3.heap.size) := ⟨ho5, nx_trans K3.out.2.2.2.1 hb5, K3.out.2.2.2.2⟩
  clear ho5 hb5 hz5 a0 a1 az
  go_wp2_with fail
  refine bodyPost_ret (v := .agg #[.int .i64 n, .slice po n2 pc]) (by simp [results, Tryz.results102, go_sem, y0, y1]) rfl ?_
  rw [HT.out]
  refine ⟨po, pc, ?_, ?_, ?_⟩
  · simp only [HM.out]
  · simp only [HM.out]
    exact own_mono (ownsRow_setCell_below (ownsRow_setCell_below K5.out.1 (by show w.heap.size + 2 < _; have := K5.out.2.2; omega) _) (by show w.heap.size + 2 < _; have := K5.out.2.2; omega) _) (by have := K5.out.2.2; omega)
  · have hg : w.heap.size ≤ w.heap.size + 2 := by omega
    exact (K5.out.2.1.setCell hg _).setCell hg _
set_option maxRecDepth 20000 in
set_option maxHeartbeats 4000000 in
theorem take4 (b : Int) (so : Option Addr) (n2 sc : Nat) (nm : ByteArray) (n : Int) (ps : List Pl) (w : World) (hr : w.ownsRow 0 75 4 (.slice so n2 sc) n2 (flatP ps)) (hn : ps.length = n2) (hq : n2 ≤ 1000) :
    Calls Tryz.prog 102 #[.agg #[.int .i64 b, .slice so n2 sc], stA 4 nm n] w fun e w' => TakeG (takeT 4 nm n b ps) w w' e := by
  have HT : Hid (takeT 4 nm n b ps = (b, (insP ⟨nm, 0, 0, 0⟩ ps))) := by
    show _ = _
    unfold takeT
    simp
  obtain ⟨W0, hW0⟩ : ∃ W0, W0 = ((w.alloc (bTab b (.slice so n2 sc))).alloc (bSt 4 nm n)).alloc (bTab 0 (.slice none 0 0)) := ⟨_, rfl⟩
  have hb0 : Below w.heap.size w W0 := by rw [hW0]; exact nx_trans (nx_trans (nx_alloc _ _) (nx_alloc _ _)) (nx_alloc _ _)
  have K0 : Hid (W0 = ((w.alloc (bTab b (.slice so n2 sc))).alloc (bSt 4 nm n)).alloc (bTab 0 (.slice none 0 0)) ∧ W0.heap[w.heap.size]? = some (bTab b (.slice so n2 sc)) ∧ W0.heap[w.heap.size + 1]? = some (bSt 4 nm n) ∧ W0.heap[w.heap.size + 2]? = some (bTab 0 (.slice none 0 0)) ∧ Below w.heap.size w W0 ∧ w.heap.size + 3 = W0.heap.size) := by
    refine ⟨hW0, ?_, ?_, ?_, hb0, by rw [hW0]; simp⟩
    · rw [hW0]; exact (heap_alloc_lt _ _ (by simp; omega)).trans ((heap_alloc_lt _ _ (by simp)).trans (heap_alloc_at _ _ rfl))
    · rw [hW0]; exact (heap_alloc_lt _ _ (by simp)).trans (heap_alloc_at _ _ (by simp))
    · rw [hW0]; exact heap_alloc_at _ _ (by simp)
  have HO := hideIt hr
  have HLN := hideIt hn
  have HCL := hideIt (insert_any ⟨nm, 0, 0, 0⟩ so sc n2 ps W0 ((own_row hr).nx hb0) hn (by omega))
  clear hr hn hW0 hb0
  go_enter Tryz.func102, Tryz.ntmps102
  go_upto_region 1 with fail
  rw [← K0.out.1]
  obtain ⟨a0, a1, az⟩ := blk2 K0.out.2.1
  obtain ⟨b0, b1, b2, bz⟩ := blk3d K0.out.2.2.1
  go_wp2_with fail
  refine HCL.out.mono ?_
  rintro e w1 ⟨v, rfl, ho1, hb1⟩
  obtain ⟨vo, vc, rfl, _⟩ := own_row ho1
  obtain ⟨m, hm⟩ : ∃ m, (insP ⟨nm, 0, 0, 0⟩ ps).length = m := ⟨_, rfl⟩
  rw [hm] at ho1 ⊢
  have HM := hideIt hm
  have hml : m ≤ 1001 := by
    rw [← hm]
    have := HLN.out
    rw [insP_len2]
    omega
  have hz1 : w1.heap[w.heap.size]? = some (bTab b (.slice so n2 sc)) := (hb1.block _ (by have := K0.out.2.2.2.2.2; omega)).trans K0.out.2.1
  have hz3 : w1.heap[w.heap.size + 2]? = some (bTab 0 (.slice none 0 0)) := (hb1.block _ (by have := K0.out.2.2.2.2.2; omega)).trans K0.out.2.2.2.1
  obtain ⟨W3, hW3⟩ : ∃ W3, W3 = w1.setCell ⟨w.heap.size, 1, none⟩ (.slice vo m vc) := ⟨_, rfl⟩
  have K3 : Hid (W3 = w1.setCell ⟨w.heap.size, 1, none⟩ (.slice vo m vc) ∧ W3.heap[w.heap.size]? = some (bTab b (.slice vo m vc)) ∧ W3.heap[w.heap.size + 2]? = some (bTab 0 (.slice none 0 0)) ∧ Below w.heap.size w W3 ∧ w.heap.size + 3 ≤ W3.heap.size ∧ W3.ownsRow W0.heap.size 75 4 (.slice vo m vc) m (flatP (insP ⟨nm, 0, 0, 0⟩ ps))) :=
    ⟨hW3, by rw [hW3]; exact set_heap _ _ _ _ _ _ hz1, by rw [hW3]; exact (Below.heap_setCell _ _ _ _ (by show w.heap.size + 2 ≠ w.heap.size; omega)).trans hz3, by rw [hW3]; exact (nx_trans K0.out.2.2.2.2.1 hb1).setCell (Nat.le_refl _) _, by rw [hW3]; simp; have := K0.out.2.2.2.2.2; have := hb1.size; omega, by rw [hW3]; exact ownsRow_setCell_below ho1 (by show w.heap.size < W0.heap.size; have := K0.out.2.2.2.2.2; omega) _⟩
  have HCP := hideIt (copy_any b (insP ⟨nm, 0, 0, 0⟩ ps) vo m vc W3 (own_row K3.out.2.2.2.2.2) (own_nilc K3.out.2.2.2.2.2) HM.out (by omega))
  clear a0 a1 az b0 b1 b2 bz ho1 hm
  obtain ⟨a0, a1, az⟩ := blk2 hz1
  clear hb1 hz1 hz3 hW3
  go_upto_region 14 with fail
  rw [← K3.out.1]
  clear a0 a1 az
  obtain ⟨a0, a1, az⟩ := blk2 K3.out.2.1
  go_wp2_with fail
  refine HCP.out.mono ?_
  rintro e w5 ⟨po, pc, rfl, ho5, hb5⟩
  have hz5 : w5.heap[w.heap.size + 2]? = some (bTab 0 (.slice none 0 0)) := (hb5.block _ (Array.getElem?_eq_some_iff.1 K3.out.2.2.1).1).trans K3.out.2.2.1
  obtain ⟨y0, y1, yz⟩ := blk2 hz5
  have K5 : Hid (w5.ownsRow W3.heap.size 75 4 (.slice po m pc) m (flatP (insP ⟨nm, 0, 0, 0⟩ ps)) ∧ Below w.heap.size w w5 ∧ w.heap.size + 3 ≤ W3.heap.size) := ⟨ho5, nx_trans K3.out.2.2.2.1 hb5, K3.out.2.2.2.2.1⟩
  clear ho5 hb5 hz5 a0 a1 az
  go_wp2_with fail
  refine bodyPost_ret (v := .agg #[.int .i64 b, .slice po m pc]) (by simp [results, Tryz.results102, go_sem, y0, y1]) rfl ?_
  rw [HT.out]
  refine ⟨po, pc, ?_, ?_, ?_⟩
  · simp only [HM.out]
  · simp only [HM.out]
    exact own_mono (ownsRow_setCell_below (ownsRow_setCell_below K5.out.1 (by show w.heap.size + 2 < _; have := K5.out.2.2; omega) _) (by show w.heap.size + 2 < _; have := K5.out.2.2; omega) _) (by have := K5.out.2.2; omega)
  · have hg : w.heap.size ≤ w.heap.size + 2 := by omega
    exact (K5.out.2.1.setCell hg _).setCell hg _
set_option maxRecDepth 20000 in
set_option maxHeartbeats 4000000 in
theorem take5 (b : Int) (so : Option Addr) (n2 sc : Nat) (nm : ByteArray) (n : Int) (ps : List Pl) (w : World) (hr : w.ownsRow 0 75 4 (.slice so n2 sc) n2 (flatP ps)) (hn : ps.length = n2) (hq : n2 ≤ 1000) :
    Calls Tryz.prog 102 #[.agg #[.int .i64 b, .slice so n2 sc], stA 5 nm n] w fun e w' => TakeG (takeT 5 nm n b ps) w w' e := by
  have HT : Hid (takeT 5 nm n b ps = (b, (chgP 5 nm n ps))) := by
    show _ = _
    unfold takeT
    simp
  obtain ⟨W0, hW0⟩ : ∃ W0, W0 = ((w.alloc (bTab b (.slice so n2 sc))).alloc (bSt 5 nm n)).alloc (bTab 0 (.slice none 0 0)) := ⟨_, rfl⟩
  have hb0 : Below w.heap.size w W0 := by rw [hW0]; exact nx_trans (nx_trans (nx_alloc _ _) (nx_alloc _ _)) (nx_alloc _ _)
  have K0 : Hid (W0 = ((w.alloc (bTab b (.slice so n2 sc))).alloc (bSt 5 nm n)).alloc (bTab 0 (.slice none 0 0)) ∧ W0.heap[w.heap.size]? = some (bTab b (.slice so n2 sc)) ∧ W0.heap[w.heap.size + 1]? = some (bSt 5 nm n) ∧ W0.heap[w.heap.size + 2]? = some (bTab 0 (.slice none 0 0)) ∧ Below w.heap.size w W0 ∧ w.heap.size + 3 = W0.heap.size) := by
    refine ⟨hW0, ?_, ?_, ?_, hb0, by rw [hW0]; simp⟩
    · rw [hW0]; exact (heap_alloc_lt _ _ (by simp; omega)).trans ((heap_alloc_lt _ _ (by simp)).trans (heap_alloc_at _ _ rfl))
    · rw [hW0]; exact (heap_alloc_lt _ _ (by simp)).trans (heap_alloc_at _ _ (by simp))
    · rw [hW0]; exact heap_alloc_at _ _ (by simp)
  have HO := hideIt hr
  have HLN := hideIt hn
  have HCL := hideIt (changed5 so n2 sc nm n ps W0 ((own_row hr).nx hb0) hn (by omega))
  clear hr hn hW0 hb0
  go_enter Tryz.func102, Tryz.ntmps102
  go_upto_region 1 with fail
  rw [← K0.out.1]
  obtain ⟨a0, a1, az⟩ := blk2 K0.out.2.1
  obtain ⟨b0, b1, b2, bz⟩ := blk3d K0.out.2.2.1
  go_wp2_with fail
  refine HCL.out.mono ?_
  rintro e w1 ⟨vo, vc, rfl, ho1, hb1⟩
  obtain ⟨m, hm⟩ : ∃ m, (chgP 5 nm n ps).length = m := ⟨_, rfl⟩
  rw [hm] at ho1 ⊢
  have HM := hideIt hm
  have hml : m ≤ 1001 := by
    rw [← hm]
    have := HLN.out
    have h2 := chgP_len 5 nm n ps
    omega
  have hz1 : w1.heap[w.heap.size]? = some (bTab b (.slice so n2 sc)) := (hb1.block _ (by have := K0.out.2.2.2.2.2; omega)).trans K0.out.2.1
  have hz3 : w1.heap[w.heap.size + 2]? = some (bTab 0 (.slice none 0 0)) := (hb1.block _ (by have := K0.out.2.2.2.2.2; omega)).trans K0.out.2.2.2.1
  obtain ⟨W3, hW3⟩ : ∃ W3, W3 = w1.setCell ⟨w.heap.size, 1, none⟩ (.slice vo m vc) := ⟨_, rfl⟩
  have K3 : Hid (W3 = w1.setCell ⟨w.heap.size, 1, none⟩ (.slice vo m vc) ∧ W3.heap[w.heap.size]? = some (bTab b (.slice vo m vc)) ∧ W3.heap[w.heap.size + 2]? = some (bTab 0 (.slice none 0 0)) ∧ Below w.heap.size w W3 ∧ w.heap.size + 3 ≤ W3.heap.size ∧ W3.ownsRow W0.heap.size 75 4 (.slice vo m vc) m (flatP (chgP 5 nm n ps))) :=
    ⟨hW3, by rw [hW3]; exact set_heap _ _ _ _ _ _ hz1, by rw [hW3]; exact (Below.heap_setCell _ _ _ _ (by show w.heap.size + 2 ≠ w.heap.size; omega)).trans hz3, by rw [hW3]; exact (nx_trans K0.out.2.2.2.2.1 hb1).setCell (Nat.le_refl _) _, by rw [hW3]; simp; have := K0.out.2.2.2.2.2; have := hb1.size; omega, by rw [hW3]; exact ownsRow_setCell_below ho1 (by show w.heap.size < W0.heap.size; have := K0.out.2.2.2.2.2; omega) _⟩
  have HCP := hideIt (copy_any b (chgP 5 nm n ps) vo m vc W3 (own_row K3.out.2.2.2.2.2) (own_nilc K3.out.2.2.2.2.2) HM.out (by omega))
  clear a0 a1 az b0 b1 b2 bz ho1 hm
  obtain ⟨a0, a1, az⟩ := blk2 hz1
  clear hb1 hz1 hz3 hW3
  go_upto_region 14 with fail
  rw [← K3.out.1]
  clear a0 a1 az
  obtain ⟨a0, a1, az⟩ := blk2 K3.out.2.1
  go_wp2_with fail
  refine HCP.out.mono ?_
  rintro e w5 ⟨po, pc, rfl, ho5, hb5⟩
  have hz5 : w5.heap[w.heap.size + 2]? = some (bTab 0 (.slice none 0 0)) := (hb5.block _ (Array.getElem?_eq_some_iff.1 K3.out.2.2.1).1).trans K3.out.2.2.1
  obtain ⟨y0, y1, yz⟩ := blk2 hz5
  have K5 : Hid (w5.ownsRow W3.heap.size 75 4 (.slice po m pc) m (flatP (chgP 5 nm n ps)) ∧ Below w.heap.size w w5 ∧ w.heap.size + 3 ≤ W3.heap.size) := ⟨ho5, nx_trans K3.out.2.2.2.1 hb5, K3.out.2.2.2.2.1⟩
  clear ho5 hb5 hz5 a0 a1 az
  go_wp2_with fail
  refine bodyPost_ret (v := .agg #[.int .i64 b, .slice po m pc]) (by simp [results, Tryz.results102, go_sem, y0, y1]) rfl ?_
  rw [HT.out]
  refine ⟨po, pc, ?_, ?_, ?_⟩
  · simp only [HM.out]
  · simp only [HM.out]
    exact own_mono (ownsRow_setCell_below (ownsRow_setCell_below K5.out.1 (by show w.heap.size + 2 < _; have := K5.out.2.2; omega) _) (by show w.heap.size + 2 < _; have := K5.out.2.2; omega) _) (by have := K5.out.2.2; omega)
  · have hg : w.heap.size ≤ w.heap.size + 2 := by omega
    exact (K5.out.2.1.setCell hg _).setCell hg _
set_option maxRecDepth 20000 in
set_option maxHeartbeats 4000000 in
theorem take6 (b : Int) (so : Option Addr) (n2 sc : Nat) (nm : ByteArray) (n : Int) (ps : List Pl) (w : World) (hr : w.ownsRow 0 75 4 (.slice so n2 sc) n2 (flatP ps)) (hn : ps.length = n2) (hq : n2 ≤ 1000) :
    Calls Tryz.prog 102 #[.agg #[.int .i64 b, .slice so n2 sc], stA 6 nm n] w fun e w' => TakeG (takeT 6 nm n b ps) w w' e := by
  have HT : Hid (takeT 6 nm n b ps = (b, (chgP 6 nm n ps))) := by
    show _ = _
    unfold takeT
    simp
  obtain ⟨W0, hW0⟩ : ∃ W0, W0 = ((w.alloc (bTab b (.slice so n2 sc))).alloc (bSt 6 nm n)).alloc (bTab 0 (.slice none 0 0)) := ⟨_, rfl⟩
  have hb0 : Below w.heap.size w W0 := by rw [hW0]; exact nx_trans (nx_trans (nx_alloc _ _) (nx_alloc _ _)) (nx_alloc _ _)
  have K0 : Hid (W0 = ((w.alloc (bTab b (.slice so n2 sc))).alloc (bSt 6 nm n)).alloc (bTab 0 (.slice none 0 0)) ∧ W0.heap[w.heap.size]? = some (bTab b (.slice so n2 sc)) ∧ W0.heap[w.heap.size + 1]? = some (bSt 6 nm n) ∧ W0.heap[w.heap.size + 2]? = some (bTab 0 (.slice none 0 0)) ∧ Below w.heap.size w W0 ∧ w.heap.size + 3 = W0.heap.size) := by
    refine ⟨hW0, ?_, ?_, ?_, hb0, by rw [hW0]; simp⟩
    · rw [hW0]; exact (heap_alloc_lt _ _ (by simp; omega)).trans ((heap_alloc_lt _ _ (by simp)).trans (heap_alloc_at _ _ rfl))
    · rw [hW0]; exact (heap_alloc_lt _ _ (by simp)).trans (heap_alloc_at _ _ (by simp))
    · rw [hW0]; exact heap_alloc_at _ _ (by simp)
  have HO := hideIt hr
  have HLN := hideIt hn
  have HCL := hideIt (changed6 so n2 sc nm n ps W0 ((own_row hr).nx hb0) hn (by omega))
  clear hr hn hW0 hb0
  go_enter Tryz.func102, Tryz.ntmps102
  go_upto_region 1 with fail
  rw [← K0.out.1]
  obtain ⟨a0, a1, az⟩ := blk2 K0.out.2.1
  obtain ⟨b0, b1, b2, bz⟩ := blk3d K0.out.2.2.1
  go_wp2_with fail
  refine HCL.out.mono ?_
  rintro e w1 ⟨vo, vc, rfl, ho1, hb1⟩
  obtain ⟨m, hm⟩ : ∃ m, (chgP 6 nm n ps).length = m := ⟨_, rfl⟩
  rw [hm] at ho1 ⊢
  have HM := hideIt hm
  have hml : m ≤ 1001 := by
    rw [← hm]
    have := HLN.out
    have h2 := chgP_len 6 nm n ps
    omega
  have hz1 : w1.heap[w.heap.size]? = some (bTab b (.slice so n2 sc)) := (hb1.block _ (by have := K0.out.2.2.2.2.2; omega)).trans K0.out.2.1
  have hz3 : w1.heap[w.heap.size + 2]? = some (bTab 0 (.slice none 0 0)) := (hb1.block _ (by have := K0.out.2.2.2.2.2; omega)).trans K0.out.2.2.2.1
  obtain ⟨W3, hW3⟩ : ∃ W3, W3 = w1.setCell ⟨w.heap.size, 1, none⟩ (.slice vo m vc) := ⟨_, rfl⟩
  have K3 : Hid (W3 = w1.setCell ⟨w.heap.size, 1, none⟩ (.slice vo m vc) ∧ W3.heap[w.heap.size]? = some (bTab b (.slice vo m vc)) ∧ W3.heap[w.heap.size + 2]? = some (bTab 0 (.slice none 0 0)) ∧ Below w.heap.size w W3 ∧ w.heap.size + 3 ≤ W3.heap.size ∧ W3.ownsRow W0.heap.size 75 4 (.slice vo m vc) m (flatP (chgP 6 nm n ps))) :=
    ⟨hW3, by rw [hW3]; exact set_heap _ _ _ _ _ _ hz1, by rw [hW3]; exact (Below.heap_setCell _ _ _ _ (by show w.heap.size + 2 ≠ w.heap.size; omega)).trans hz3, by rw [hW3]; exact (nx_trans K0.out.2.2.2.2.1 hb1).setCell (Nat.le_refl _) _, by rw [hW3]; simp; have := K0.out.2.2.2.2.2; have := hb1.size; omega, by rw [hW3]; exact ownsRow_setCell_below ho1 (by show w.heap.size < W0.heap.size; have := K0.out.2.2.2.2.2; omega) _⟩
  have HCP := hideIt (copy_any b (chgP 6 nm n ps) vo m vc W3 (own_row K3.out.2.2.2.2.2) (own_nilc K3.out.2.2.2.2.2) HM.out (by omega))
  clear a0 a1 az b0 b1 b2 bz ho1 hm
  obtain ⟨a0, a1, az⟩ := blk2 hz1
  clear hb1 hz1 hz3 hW3
  go_upto_region 14 with fail
  rw [← K3.out.1]
  clear a0 a1 az
  obtain ⟨a0, a1, az⟩ := blk2 K3.out.2.1
  go_wp2_with fail
  refine HCP.out.mono ?_
  rintro e w5 ⟨po, pc, rfl, ho5, hb5⟩
  have hz5 : w5.heap[w.heap.size + 2]? = some (bTab 0 (.slice none 0 0)) := (hb5.block _ (Array.getElem?_eq_some_iff.1 K3.out.2.2.1).1).trans K3.out.2.2.1
  obtain ⟨y0, y1, yz⟩ := blk2 hz5
  have K5 : Hid (w5.ownsRow W3.heap.size 75 4 (.slice po m pc) m (flatP (chgP 6 nm n ps)) ∧ Below w.heap.size w w5 ∧ w.heap.size + 3 ≤ W3.heap.size) := ⟨ho5, nx_trans K3.out.2.2.2.1 hb5, K3.out.2.2.2.2.1⟩
  clear ho5 hb5 hz5 a0 a1 az
  go_wp2_with fail
  refine bodyPost_ret (v := .agg #[.int .i64 b, .slice po m pc]) (by simp [results, Tryz.results102, go_sem, y0, y1]) rfl ?_
  rw [HT.out]
  refine ⟨po, pc, ?_, ?_, ?_⟩
  · simp only [HM.out]
  · simp only [HM.out]
    exact own_mono (ownsRow_setCell_below (ownsRow_setCell_below K5.out.1 (by show w.heap.size + 2 < _; have := K5.out.2.2; omega) _) (by show w.heap.size + 2 < _; have := K5.out.2.2; omega) _) (by have := K5.out.2.2; omega)
  · have hg : w.heap.size ≤ w.heap.size + 2 := by omega
    exact (K5.out.2.1.setCell hg _).setCell hg _
set_option maxRecDepth 20000 in
set_option maxHeartbeats 4000000 in
theorem take7 (b : Int) (so : Option Addr) (n2 sc : Nat) (nm : ByteArray) (n : Int) (ps : List Pl) (w : World) (hr : w.ownsRow 0 75 4 (.slice so n2 sc) n2 (flatP ps)) (hn : ps.length = n2) (hq : n2 ≤ 1000) :
    Calls Tryz.prog 102 #[.agg #[.int .i64 b, .slice so n2 sc], stA 7 nm n] w fun e w' => TakeG (takeT 7 nm n b ps) w w' e := by
  have HT : Hid (takeT 7 nm n b ps = (n, ps)) := by
    show _ = _
    unfold takeT
    simp
  obtain ⟨W0, hW0⟩ : ∃ W0, W0 = ((w.alloc (bTab b (.slice so n2 sc))).alloc (bSt 7 nm n)).alloc (bTab 0 (.slice none 0 0)) := ⟨_, rfl⟩
  have hb0 : Below w.heap.size w W0 := by rw [hW0]; exact nx_trans (nx_trans (nx_alloc _ _) (nx_alloc _ _)) (nx_alloc _ _)
  have K0 : Hid (W0 = ((w.alloc (bTab b (.slice so n2 sc))).alloc (bSt 7 nm n)).alloc (bTab 0 (.slice none 0 0)) ∧ W0.heap[w.heap.size]? = some (bTab b (.slice so n2 sc)) ∧ W0.heap[w.heap.size + 1]? = some (bSt 7 nm n) ∧ W0.heap[w.heap.size + 2]? = some (bTab 0 (.slice none 0 0)) ∧ Below w.heap.size w W0 ∧ w.heap.size + 3 = W0.heap.size) := by
    refine ⟨hW0, ?_, ?_, ?_, hb0, by rw [hW0]; simp⟩
    · rw [hW0]; exact (heap_alloc_lt _ _ (by simp; omega)).trans ((heap_alloc_lt _ _ (by simp)).trans (heap_alloc_at _ _ rfl))
    · rw [hW0]; exact (heap_alloc_lt _ _ (by simp)).trans (heap_alloc_at _ _ (by simp))
    · rw [hW0]; exact heap_alloc_at _ _ (by simp)
  have HO := hideIt hr
  have HLN := hideIt hn
  clear hr hn hW0 hb0
  go_enter Tryz.func102, Tryz.ntmps102
  go_upto_region 1 with fail
  rw [← K0.out.1]
  obtain ⟨a0, a1, az⟩ := blk2 K0.out.2.1
  obtain ⟨b0, b1, b2, bz⟩ := blk3d K0.out.2.2.1
  obtain ⟨W3, hW3⟩ : ∃ W3, W3 = W0.setCell ⟨w.heap.size, 0, none⟩ (.int .i64 n) := ⟨_, rfl⟩
  have K3 : Hid (W3 = W0.setCell ⟨w.heap.size, 0, none⟩ (.int .i64 n) ∧ W3.heap[w.heap.size]? = some (bTab n (.slice so n2 sc)) ∧ W3.heap[w.heap.size + 2]? = some (bTab 0 (.slice none 0 0)) ∧ Below w.heap.size w W3 ∧ w.heap.size + 3 ≤ W3.heap.size) :=
    ⟨hW3, by rw [hW3]; exact set_heap _ _ _ _ _ _ K0.out.2.1, by rw [hW3]; exact (Below.heap_setCell _ _ _ _ (by show w.heap.size + 2 ≠ w.heap.size; omega)).trans K0.out.2.2.2.1, by rw [hW3]; exact K0.out.2.2.2.2.1.setCell (Nat.le_refl _) _, by rw [hW3]; simp; have := K0.out.2.2.2.2.2; omega⟩
  have HCP := hideIt (copy_any n ps so n2 sc W3 ((own_row HO.out).nx K3.out.2.2.2.1) (own_nilc HO.out) HLN.out (by omega))
  obtain ⟨m, hm⟩ : ∃ m, ps.length = m := ⟨_, rfl⟩
  have HM := hideIt hm
  have hmn : n2 = m := by rw [← hm, HLN.out]
  subst hmn
  clear hW3 hm
  go_upto_region 14 with fail
  rw [← K3.out.1]
  clear a0 a1 az b0 b1 b2 bz
  obtain ⟨a0, a1, az⟩ := blk2 K3.out.2.1
  go_wp2_with fail
  refine HCP.out.mono ?_
  rintro e w5 ⟨po, pc, rfl, ho5, hb5⟩
  have hz5 : w5.heap[w.heap.size + 2]? = some (bTab 0 (.slice none 0 0)) := (hb5.block _ (Array.getElem?_eq_some_iff.1 K3.out.2.2.1).1).trans K3.out.2.2.1
  obtain ⟨y0, y1, yz⟩ := blk2 hz5
  have K5 : Hid (w5.ownsRow W3.heap.size 75 4 (.slice po n2 pc) n2 (flatP ps) ∧ Below w.heap.size w w5 ∧ w.heap.size + 3 ≤ W3.heap.size) := ⟨ho5, nx_trans K3.out.2.2.2.1 hb5, K3.out.2.2.2.2⟩
  clear ho5 hb5 hz5 a0 a1 az
  go_wp2_with fail
  refine bodyPost_ret (v := .agg #[.int .i64 n, .slice po n2 pc]) (by simp [results, Tryz.results102, go_sem, y0, y1]) rfl ?_
  rw [HT.out]
  refine ⟨po, pc, ?_, ?_, ?_⟩
  · simp only [HM.out]
  · simp only [HM.out]
    exact own_mono (ownsRow_setCell_below (ownsRow_setCell_below K5.out.1 (by show w.heap.size + 2 < _; have := K5.out.2.2; omega) _) (by show w.heap.size + 2 < _; have := K5.out.2.2; omega) _) (by have := K5.out.2.2; omega)
  · have hg : w.heap.size ≤ w.heap.size + 2 := by omega
    exact (K5.out.2.1.setCell hg _).setCell hg _
set_option maxRecDepth 20000 in
set_option maxHeartbeats 4000000 in
theorem take8 (b : Int) (so : Option Addr) (n2 sc : Nat) (nm : ByteArray) (n : Int) (ps : List Pl) (w : World) (hr : w.ownsRow 0 75 4 (.slice so n2 sc) n2 (flatP ps)) (hn : ps.length = n2) (hq : n2 ≤ 1000) :
    Calls Tryz.prog 102 #[.agg #[.int .i64 b, .slice so n2 sc], stA 8 nm n] w fun e w' => TakeG (takeT 8 nm n b ps) w w' e := by
  have HT : Hid (takeT 8 nm n b ps = (b, (chgP 8 nm n ps))) := by
    show _ = _
    unfold takeT
    simp
  obtain ⟨W0, hW0⟩ : ∃ W0, W0 = ((w.alloc (bTab b (.slice so n2 sc))).alloc (bSt 8 nm n)).alloc (bTab 0 (.slice none 0 0)) := ⟨_, rfl⟩
  have hb0 : Below w.heap.size w W0 := by rw [hW0]; exact nx_trans (nx_trans (nx_alloc _ _) (nx_alloc _ _)) (nx_alloc _ _)
  have K0 : Hid (W0 = ((w.alloc (bTab b (.slice so n2 sc))).alloc (bSt 8 nm n)).alloc (bTab 0 (.slice none 0 0)) ∧ W0.heap[w.heap.size]? = some (bTab b (.slice so n2 sc)) ∧ W0.heap[w.heap.size + 1]? = some (bSt 8 nm n) ∧ W0.heap[w.heap.size + 2]? = some (bTab 0 (.slice none 0 0)) ∧ Below w.heap.size w W0 ∧ w.heap.size + 3 = W0.heap.size) := by
    refine ⟨hW0, ?_, ?_, ?_, hb0, by rw [hW0]; simp⟩
    · rw [hW0]; exact (heap_alloc_lt _ _ (by simp; omega)).trans ((heap_alloc_lt _ _ (by simp)).trans (heap_alloc_at _ _ rfl))
    · rw [hW0]; exact (heap_alloc_lt _ _ (by simp)).trans (heap_alloc_at _ _ (by simp))
    · rw [hW0]; exact heap_alloc_at _ _ (by simp)
  have HO := hideIt hr
  have HLN := hideIt hn
  have HCL := hideIt (changed8 so n2 sc nm n ps W0 ((own_row hr).nx hb0) hn (by omega))
  clear hr hn hW0 hb0
  go_enter Tryz.func102, Tryz.ntmps102
  go_upto_region 1 with fail
  rw [← K0.out.1]
  obtain ⟨a0, a1, az⟩ := blk2 K0.out.2.1
  obtain ⟨b0, b1, b2, bz⟩ := blk3d K0.out.2.2.1
  go_wp2_with fail
  refine HCL.out.mono ?_
  rintro e w1 ⟨vo, vc, rfl, ho1, hb1⟩
  obtain ⟨m, hm⟩ : ∃ m, (chgP 8 nm n ps).length = m := ⟨_, rfl⟩
  rw [hm] at ho1 ⊢
  have HM := hideIt hm
  have hml : m ≤ 1001 := by
    rw [← hm]
    have := HLN.out
    have h2 := chgP_len 8 nm n ps
    omega
  have hz1 : w1.heap[w.heap.size]? = some (bTab b (.slice so n2 sc)) := (hb1.block _ (by have := K0.out.2.2.2.2.2; omega)).trans K0.out.2.1
  have hz3 : w1.heap[w.heap.size + 2]? = some (bTab 0 (.slice none 0 0)) := (hb1.block _ (by have := K0.out.2.2.2.2.2; omega)).trans K0.out.2.2.2.1
  obtain ⟨W3, hW3⟩ : ∃ W3, W3 = w1.setCell ⟨w.heap.size, 1, none⟩ (.slice vo m vc) := ⟨_, rfl⟩
  have K3 : Hid (W3 = w1.setCell ⟨w.heap.size, 1, none⟩ (.slice vo m vc) ∧ W3.heap[w.heap.size]? = some (bTab b (.slice vo m vc)) ∧ W3.heap[w.heap.size + 2]? = some (bTab 0 (.slice none 0 0)) ∧ Below w.heap.size w W3 ∧ w.heap.size + 3 ≤ W3.heap.size ∧ W3.ownsRow W0.heap.size 75 4 (.slice vo m vc) m (flatP (chgP 8 nm n ps))) :=
    ⟨hW3, by rw [hW3]; exact set_heap _ _ _ _ _ _ hz1, by rw [hW3]; exact (Below.heap_setCell _ _ _ _ (by show w.heap.size + 2 ≠ w.heap.size; omega)).trans hz3, by rw [hW3]; exact (nx_trans K0.out.2.2.2.2.1 hb1).setCell (Nat.le_refl _) _, by rw [hW3]; simp; have := K0.out.2.2.2.2.2; have := hb1.size; omega, by rw [hW3]; exact ownsRow_setCell_below ho1 (by show w.heap.size < W0.heap.size; have := K0.out.2.2.2.2.2; omega) _⟩
  have HCP := hideIt (copy_any b (chgP 8 nm n ps) vo m vc W3 (own_row K3.out.2.2.2.2.2) (own_nilc K3.out.2.2.2.2.2) HM.out (by omega))
  clear a0 a1 az b0 b1 b2 bz ho1 hm
  obtain ⟨a0, a1, az⟩ := blk2 hz1
  clear hb1 hz1 hz3 hW3
  go_upto_region 14 with fail
  rw [← K3.out.1]
  clear a0 a1 az
  obtain ⟨a0, a1, az⟩ := blk2 K3.out.2.1
  go_wp2_with fail
  refine HCP.out.mono ?_
  rintro e w5 ⟨po, pc, rfl, ho5, hb5⟩
  have hz5 : w5.heap[w.heap.size + 2]? = some (bTab 0 (.slice none 0 0)) := (hb5.block _ (Array.getElem?_eq_some_iff.1 K3.out.2.2.1).1).trans K3.out.2.2.1
  obtain ⟨y0, y1, yz⟩ := blk2 hz5
  have K5 : Hid (w5.ownsRow W3.heap.size 75 4 (.slice po m pc) m (flatP (chgP 8 nm n ps)) ∧ Below w.heap.size w w5 ∧ w.heap.size + 3 ≤ W3.heap.size) := ⟨ho5, nx_trans K3.out.2.2.2.1 hb5, K3.out.2.2.2.2.1⟩
  clear ho5 hb5 hz5 a0 a1 az
  go_wp2_with fail
  refine bodyPost_ret (v := .agg #[.int .i64 b, .slice po m pc]) (by simp [results, Tryz.results102, go_sem, y0, y1]) rfl ?_
  rw [HT.out]
  refine ⟨po, pc, ?_, ?_, ?_⟩
  · simp only [HM.out]
  · simp only [HM.out]
    exact own_mono (ownsRow_setCell_below (ownsRow_setCell_below K5.out.1 (by show w.heap.size + 2 < _; have := K5.out.2.2; omega) _) (by show w.heap.size + 2 < _; have := K5.out.2.2; omega) _) (by have := K5.out.2.2; omega)
  · have hg : w.heap.size ≤ w.heap.size + 2 := by omega
    exact (K5.out.2.1.setCell hg _).setCell hg _
end Lw
end Go.Proofs.YtohbonfngeblkaaGreat
