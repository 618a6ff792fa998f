
import Derived.Test.YtphkgbbfkibfbaaStB
import Derived.Lib.EndianMore
import Derived.Deep.RegionHeld3
namespace Go.Proofs.Ytphkgbbfkibfbaa
open Go.RowKit
namespace Df
open Co Lw

set_option maxRecDepth 20000 in
set_option maxHeartbeats 4000000 in
theorem kStep3 (b : Int) (ao : Option Addr) (n ac : Nat) (ts : List Pl) (N : Int) (w : World) (hr : RowAt w (.slice ao n ac) n (flatP ts)) (hn : ts.length = n) (hn2 : n ≤ 6) (hnil : ao = none → ac = 0) (hN : N < b) :
    Calls Try.prog 6 #[.agg #[.int .i64 b, .slice ao n ac], sA 3 ⟨#[]⟩ N] w fun e w' => GaveT w w' (N) (ts) e := by
  obtain ⟨W, hW⟩ : ∃ W, W = ((w.alloc (bTab b (.slice ao n ac))).alloc (bStp 3 ⟨#[]⟩ N)).alloc (bTab 0 (.slice none 0 0)) := ⟨_, rfl⟩
  have hbW : Below w.heap.size w W := by rw [hW]; exact nx_trans (nx_trans (nx_alloc _ _) (nx_alloc _ _)) (nx_alloc _ _)
  have HW : Hid (W = ((w.alloc (bTab b (.slice ao n ac))).alloc (bStp 3 ⟨#[]⟩ N)).alloc (bTab 0 (.slice none 0 0)) ∧ W.heap[w.heap.size]? = some (bTab b (.slice ao n ac)) ∧ W.heap[w.heap.size + 1]? = some (bStp 3 ⟨#[]⟩ N) ∧ W.heap[w.heap.size + 2]? = some (bTab 0 (.slice none 0 0)) ∧ W.heap.size = w.heap.size + 3 ∧ Below w.heap.size w W) := by
    refine ⟨hW, ?_, ?_, ?_, ?_, hbW⟩
    · rw [hW]; exact (heap_alloc_lt _ _ (by simp; omega)).trans ((heap_alloc_lt _ _ (by simp)).trans (heap_alloc_at _ _ rfl))
    · rw [hW]; exact (heap_alloc_lt _ _ (by simp)).trans (heap_alloc_at _ _ (by simp))
    · rw [hW]; exact heap_alloc_at _ _ (by simp)
    · rw [hW]; simp
  have HF := hideIt (kAt b ao n ac ⟨#[]⟩ ts W (hr.nx hbW) hn (by unfold maxLen; omega))
  have HR : Hid (RowAt w (.slice ao n ac) n (flatP ts) ∧ ts.length = n ∧ (ao = none → ac = 0)) := ⟨hr, hn, hnil⟩
  clear hr hn hW hbW hnil
  go_enter Try.func6, Try.ntmps6
  go_wp2_with fail
  rw [← HW.out.1]
  refine HF.out.mono ?_; rintro e w1 ⟨rfl, hb1⟩
  obtain ⟨a0, a1, az⟩ := blk2 (blk_nx HW.out.2.1 hb1)
  have hz1 : w.heap.size + 3 ≤ w1.heap.size := by have := hb1.size; rw [HW.out.2.2.2.2.1] at this; exact this
  have HM1 : Hid (Below W.heap.size W w1 ∧ RowAt w1 (.slice ao n ac) n (flatP ts)) := ⟨hb1, HR.out.1.nx (nx_trans HW.out.2.2.2.2.2 hb1)⟩
  clear hb1 HF
  have q1 := fun o => (blk2 (blk_nx (blk_nx HW.out.2.1 HM1.out.1) (nx_alloc w1 o))).2.1
  go_wp2_with (at_builtin; refine appendG 37 22 4 40 _ info_P Try.underlying22 rfl (by decide) (by decide) rfl (.tmp 17) (.tmp 19) rfl (w1.heap.size + 1) _ 0 [] rfl (World.ownsRow_nil _ _ _ _) ao n ac (flatP ts) rfl (by rw [flatP_len, HR.out.2.1]) (HM1.out.2.nx (nx_alloc _ _)) (flatP_one ts) HR.out.2.2 (by omega) (by simp) ?next)
  case next =>
    intro v' w3 hown3 hb3
    obtain ⟨vo, vc, rfl, _⟩ := own_row hown3
    have hb3' : Below (w1.heap.size + 1) (w1.alloc (bTab b (.slice none 0 0))) w3 := hb3
    have h3o : w3.heap[w1.heap.size]? = some (bTab b (.slice none 0 0)) := (hb3'.block _ (by omega)).trans (heap_alloc_at _ _ rfl)
    obtain ⟨o0, o1, oz⟩ := blk2 h3o
    have hlow : ∀ g o, W.heap[g]? = some o → w3.heap[g]? = some o := fun g o h => (hb3'.block g (by have := (Array.getElem?_eq_some_iff.1 (blk_nx h HM1.out.1)).1; omega)).trans (blk_nx (blk_nx h HM1.out.1) (nx_alloc _ _))
    obtain ⟨U, hU⟩ : ∃ U, U = w3.setCell ⟨w1.heap.size, 1, none⟩ (.slice vo n vc) := ⟨_, rfl⟩
    have HU : Hid (U = w3.setCell ⟨w1.heap.size, 1, none⟩ (.slice vo n vc) ∧ Mid w b (.slice ao n ac) 3 ⟨#[]⟩ N w1.heap.size vo n vc ts U ∧ w1.heap.size < U.heap.size) := by
      have hs : ∀ g, g < w1.heap.size → U.heap[g]? = w3.heap[g]? := fun g hg => by rw [hU]; exact Below.heap_setCell _ _ _ _ (by show g ≠ w1.heap.size; omega)
      have hzW := HW.out.2.2.2.2.1
      refine ⟨hU, ⟨(hs _ (by omega)).trans (hlow _ _ HW.out.2.1), (hs _ (by omega)).trans (hlow _ _ HW.out.2.2.1), (hs _ (by omega)).trans (hlow _ _ HW.out.2.2.2.1), ?_, ?_, ?_, hz1⟩, ?_⟩
      · rw [hU]; exact set_heap _ _ _ _ _ _ h3o
      · rw [hU]; exact ownsRow_setCell_below (by simpa using hown3) (by show w1.heap.size < _; omega) _
      · rw [hU]
        refine ((nx_trans HW.out.2.2.2.2.2 (nx_trans HM1.out.1 (nx_alloc _ _))).trans (hb3'.mono (by omega))).setCell ?_ _
        show w.heap.size ≤ w1.heap.size
        omega
      · rw [hU]
        have := (Array.getElem?_eq_some_iff.1 h3o).1
        simpa using this
    have HRU : Hid (RowAt U (.slice ao n ac) n (flatP ts)) := HR.out.1.nx HU.out.2.1.bel
    clear hown3 hb3 hb3' hU hlow h3o
    go_upto_region 4 with fail
    rw [← HU.out.1]
    clear o0 o1 oz a0 a1 az q1
    obtain ⟨a0, a1, az⟩ := blk2 HU.out.2.1.h0
    obtain ⟨s0, s1, s2, sz⟩ := blk3s HU.out.2.1.h1
    obtain ⟨r0, r1, rz⟩ := blk2 HU.out.2.1.h2
    obtain ⟨o0, o1, oz⟩ := blk2 HU.out.2.1.h3
    have hgo := HU.out.2.1.go
    obtain ⟨X, hX⟩ : ∃ X, X = U.setCell ⟨w1.heap.size, 0, none⟩ (.int .i64 N) := ⟨_, rfl⟩
    have HF : Hid (X = U.setCell ⟨w1.heap.size, 0, none⟩ (.int .i64 N) ∧ Fin w 3 ⟨#[]⟩ N w1.heap.size N vo n vc ts X ∧ X.heap[w.heap.size]? = some (bTab b (.slice ao n ac))) := by
      have hs : ∀ g, g < w1.heap.size → X.heap[g]? = U.heap[g]? := fun g hg => by rw [hX]; exact Below.heap_setCell _ _ _ _ (by show g ≠ w1.heap.size; omega)
      refine ⟨hX, ⟨(hs _ (by omega)).trans HU.out.2.1.h1, (hs _ (by omega)).trans HU.out.2.1.h2, ?_, ?_, ?_, hgo⟩, (hs _ (by omega)).trans HU.out.2.1.h0⟩
      · rw [hX]; exact set_heap _ _ _ _ _ _ HU.out.2.1.h3
      · rw [hX]; exact ownsRow_setCell_below HU.out.2.1.own (by show w1.heap.size < _; omega) _
      · rw [hX]; exact HU.out.2.1.bel.setCell (by show w.heap.size ≤ w1.heap.size; omega) _
    clear hX
    go_upto_region 8 with fail
    rw [← HF.out.1]
    clear a0 a1 az s0 s1 s2 sz r0 r1 rz o0 o1 oz
    obtain ⟨a0, a1, az⟩ := blk2 HF.out.2.2
    obtain ⟨s0, s1, s2, sz⟩ := blk3s HF.out.2.1.h1
    obtain ⟨r0, r1, rz⟩ := blk2 HF.out.2.1.h2
    obtain ⟨o0, o1, oz⟩ := blk2 HF.out.2.1.h3
    have hNb : (N != b) = true := by simp; omega
    go_region
    go_wp2_with fail
    refine bodyPost_ret (v := .tuple #[.agg #[.int .i64 N, .slice vo n vc], .bool true]) (by simp [results, Try.results6, go_sem, r0, r1]) rfl ?_
    exact (HF.out.2.1.gave HR.out.2.1).drew
set_option maxRecDepth 20000 in
set_option maxHeartbeats 4000000 in
theorem kStep7 (b : Int) (ao : Option Addr) (n ac : Nat) (ts : List Pl) (N : Int) (w : World) (hr : RowAt w (.slice ao n ac) n (flatP ts)) (hn : ts.length = n) (hn2 : n ≤ 6) (hnil : ao = none → ac = 0) (hN : b < N) :
    Calls Try.prog 6 #[.agg #[.int .i64 b, .slice ao n ac], sA 7 ⟨#[]⟩ N] w fun e w' => GaveT w w' (N) (ts) e := by
  obtain ⟨W, hW⟩ : ∃ W, W = ((w.alloc (bTab b (.slice ao n ac))).alloc (bStp 7 ⟨#[]⟩ N)).alloc (bTab 0 (.slice none 0 0)) := ⟨_, rfl⟩
  have hbW : Below w.heap.size w W := by rw [hW]; exact nx_trans (nx_trans (nx_alloc _ _) (nx_alloc _ _)) (nx_alloc _ _)
  have HW : Hid (W = ((w.alloc (bTab b (.slice ao n ac))).alloc (bStp 7 ⟨#[]⟩ N)).alloc (bTab 0 (.slice none 0 0)) ∧ W.heap[w.heap.size]? = some (bTab b (.slice ao n ac)) ∧ W.heap[w.heap.size + 1]? = some (bStp 7 ⟨#[]⟩ N) ∧ W.heap[w.heap.size + 2]? = some (bTab 0 (.slice none 0 0)) ∧ W.heap.size = w.heap.size + 3 ∧ Below w.heap.size w W) := by
    refine ⟨hW, ?_, ?_, ?_, ?_, hbW⟩
    · rw [hW]; exact (heap_alloc_lt _ _ (by simp; omega)).trans ((heap_alloc_lt _ _ (by simp)).trans (heap_alloc_at _ _ rfl))
    · rw [hW]; exact (heap_alloc_lt _ _ (by simp)).trans (heap_alloc_at _ _ (by simp))
    · rw [hW]; exact heap_alloc_at _ _ (by simp)
    · rw [hW]; simp
  have HF := hideIt (kAt b ao n ac ⟨#[]⟩ ts W (hr.nx hbW) hn (by unfold maxLen; omega))
  have HR : Hid (RowAt w (.slice ao n ac) n (flatP ts) ∧ ts.length = n ∧ (ao = none → ac = 0)) := ⟨hr, hn, hnil⟩
  clear hr hn hW hbW hnil
  go_enter Try.func6, Try.ntmps6
  go_wp2_with fail
  rw [← HW.out.1]
  refine HF.out.mono ?_; rintro e w1 ⟨rfl, hb1⟩
  obtain ⟨a0, a1, az⟩ := blk2 (blk_nx HW.out.2.1 hb1)
  have hz1 : w.heap.size + 3 ≤ w1.heap.size := by have := hb1.size; rw [HW.out.2.2.2.2.1] at this; exact this
  have HM1 : Hid (Below W.heap.size W w1 ∧ RowAt w1 (.slice ao n ac) n (flatP ts)) := ⟨hb1, HR.out.1.nx (nx_trans HW.out.2.2.2.2.2 hb1)⟩
  clear hb1 HF
  have q1 := fun o => (blk2 (blk_nx (blk_nx HW.out.2.1 HM1.out.1) (nx_alloc w1 o))).2.1
  go_wp2_with (at_builtin; refine appendG 37 22 4 40 _ info_P Try.underlying22 rfl (by decide) (by decide) rfl (.tmp 17) (.tmp 19) rfl (w1.heap.size + 1) _ 0 [] rfl (World.ownsRow_nil _ _ _ _) ao n ac (flatP ts) rfl (by rw [flatP_len, HR.out.2.1]) (HM1.out.2.nx (nx_alloc _ _)) (flatP_one ts) HR.out.2.2 (by omega) (by simp) ?next)
  case next =>
    intro v' w3 hown3 hb3
    obtain ⟨vo, vc, rfl, _⟩ := own_row hown3
    have hb3' : Below (w1.heap.size + 1) (w1.alloc (bTab b (.slice none 0 0))) w3 := hb3
    have h3o : w3.heap[w1.heap.size]? = some (bTab b (.slice none 0 0)) := (hb3'.block _ (by omega)).trans (heap_alloc_at _ _ rfl)
    obtain ⟨o0, o1, oz⟩ := blk2 h3o
    have hlow : ∀ g o, W.heap[g]? = some o → w3.heap[g]? = some o := fun g o h => (hb3'.block g (by have := (Array.getElem?_eq_some_iff.1 (blk_nx h HM1.out.1)).1; omega)).trans (blk_nx (blk_nx h HM1.out.1) (nx_alloc _ _))
    obtain ⟨U, hU⟩ : ∃ U, U = w3.setCell ⟨w1.heap.size, 1, none⟩ (.slice vo n vc) := ⟨_, rfl⟩
    have HU : Hid (U = w3.setCell ⟨w1.heap.size, 1, none⟩ (.slice vo n vc) ∧ Mid w b (.slice ao n ac) 7 ⟨#[]⟩ N w1.heap.size vo n vc ts U ∧ w1.heap.size < U.heap.size) := by
      have hs : ∀ g, g < w1.heap.size → U.heap[g]? = w3.heap[g]? := fun g hg => by rw [hU]; exact Below.heap_setCell _ _ _ _ (by show g ≠ w1.heap.size; omega)
      have hzW := HW.out.2.2.2.2.1
      refine ⟨hU, ⟨(hs _ (by omega)).trans (hlow _ _ HW.out.2.1), (hs _ (by omega)).trans (hlow _ _ HW.out.2.2.1), (hs _ (by omega)).trans (hlow _ _ HW.out.2.2.2.1), ?_, ?_, ?_, hz1⟩, ?_⟩
      · rw [hU]; exact set_heap _ _ _ _ _ _ h3o
      · rw [hU]; exact ownsRow_setCell_below (by simpa using hown3) (by show w1.heap.size < _; omega) _
      · rw [hU]
        refine ((nx_trans HW.out.2.2.2.2.2 (nx_trans HM1.out.1 (nx_alloc _ _))).trans (hb3'.mono (by omega))).setCell ?_ _
        show w.heap.size ≤ w1.heap.size
        omega
      · rw [hU]
        have := (Array.getElem?_eq_some_iff.1 h3o).1
        simpa using this
    have HRU : Hid (RowAt U (.slice ao n ac) n (flatP ts)) := HR.out.1.nx HU.out.2.1.bel
    clear hown3 hb3 hb3' hU hlow h3o
    go_upto_region 4 with fail
    rw [← HU.out.1]
    clear o0 o1 oz a0 a1 az q1
    obtain ⟨a0, a1, az⟩ := blk2 HU.out.2.1.h0
    obtain ⟨s0, s1, s2, sz⟩ := blk3s HU.out.2.1.h1
    obtain ⟨r0, r1, rz⟩ := blk2 HU.out.2.1.h2
    obtain ⟨o0, o1, oz⟩ := blk2 HU.out.2.1.h3
    have hgo := HU.out.2.1.go
    obtain ⟨X, hX⟩ : ∃ X, X = U.setCell ⟨w1.heap.size, 0, none⟩ (.int .i64 N) := ⟨_, rfl⟩
    have HF : Hid (X = U.setCell ⟨w1.heap.size, 0, none⟩ (.int .i64 N) ∧ Fin w 7 ⟨#[]⟩ N w1.heap.size N vo n vc ts X ∧ X.heap[w.heap.size]? = some (bTab b (.slice ao n ac))) := by
      have hs : ∀ g, g < w1.heap.size → X.heap[g]? = U.heap[g]? := fun g hg => by rw [hX]; exact Below.heap_setCell _ _ _ _ (by show g ≠ w1.heap.size; omega)
      refine ⟨hX, ⟨(hs _ (by omega)).trans HU.out.2.1.h1, (hs _ (by omega)).trans HU.out.2.1.h2, ?_, ?_, ?_, hgo⟩, (hs _ (by omega)).trans HU.out.2.1.h0⟩
      · rw [hX]; exact set_heap _ _ _ _ _ _ HU.out.2.1.h3
      · rw [hX]; exact ownsRow_setCell_below HU.out.2.1.own (by show w1.heap.size < _; omega) _
      · rw [hX]; exact HU.out.2.1.bel.setCell (by show w.heap.size ≤ w1.heap.size; omega) _
    clear hX
    go_upto_region 8 with fail
    rw [← HF.out.1]
    clear a0 a1 az s0 s1 s2 sz r0 r1 rz o0 o1 oz
    obtain ⟨a0, a1, az⟩ := blk2 HF.out.2.2
    obtain ⟨s0, s1, s2, sz⟩ := blk3s HF.out.2.1.h1
    obtain ⟨r0, r1, rz⟩ := blk2 HF.out.2.1.h2
    obtain ⟨o0, o1, oz⟩ := blk2 HF.out.2.1.h3
    have hNb : (N != b) = true := by simp; omega
    have hNl : ¬ N < b := by omega
    go_region
    go_wp2_with fail
    refine bodyPost_ret (v := .tuple #[.agg #[.int .i64 N, .slice vo n vc], .bool true]) (by simp [results, Try.results6, go_sem, r0, r1]) rfl ?_
    exact (HF.out.2.1.gave HR.out.2.1).drew
end Df
end Go.Proofs.Ytphkgbbfkibfbaa
