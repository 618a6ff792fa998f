
import Derived.Test.YtphkgbbfkibfbaaStA
namespace Go.Proofs.Ytphkgbbfkibfbaa
open Go.RowKit
namespace Df
open Co Lw

set_option maxRecDepth 20000 in
set_option maxHeartbeats 4000000 in
theorem kStep1 (b : Int) (ao : Option Addr) (n ac : Nat) (ts : List Pl) (nm : ByteArray) (N : Int) (w : World) (hr : RowAt w (.slice ao n ac) n (flatP ts)) (hn : ts.length = n) (hn2 : n ≤ 6) (hnil : ao = none → ac = 0) (k : Nat) (x : Pl) (hk : ts.findIdx? (isNameP nm) = some k) (hx : ts[k]? = some x) (hN : N < x.sz) :
    Calls Try.prog 6 #[.agg #[.int .i64 b, .slice ao n ac], sA 1 nm N] w fun e w' => GaveT w w' (b) (ts.set k ⟨x.nm, N, x.wt, x.fr⟩) e := by
  obtain ⟨W, hW⟩ : ∃ W, W = ((w.alloc (bTab b (.slice ao n ac))).alloc (bStp 1 nm N)).alloc (bTab 0 (.slice none 0 0)) := ⟨_, rfl⟩
  have hbW : Below w.heap.size w W := by rw [hW]; exact nx_trans (nx_trans (nx_alloc _ _) (nx_alloc _ _)) (nx_alloc _ _)
  have HW : Hid (W = ((w.alloc (bTab b (.slice ao n ac))).alloc (bStp 1 nm N)).alloc (bTab 0 (.slice none 0 0)) ∧ W.heap[w.heap.size]? = some (bTab b (.slice ao n ac)) ∧ W.heap[w.heap.size + 1]? = some (bStp 1 nm N) ∧ W.heap[w.heap.size + 2]? = some (bTab 0 (.slice none 0 0)) ∧ W.heap.size = w.heap.size + 3 ∧ Below w.heap.size w W) := by
    refine ⟨hW, ?_, ?_, ?_, ?_, hbW⟩
    · rw [hW]; exact (heap_alloc_lt _ _ (by simp; omega)).trans ((heap_alloc_lt _ _ (by simp)).trans (heap_alloc_at _ _ rfl))
    · rw [hW]; exact (heap_alloc_lt _ _ (by simp)).trans (heap_alloc_at _ _ (by simp))
    · rw [hW]; exact heap_alloc_at _ _ (by simp)
    · rw [hW]; simp
  have HF := hideIt (kAt b ao n ac nm ts W (hr.nx hbW) hn (by unfold maxLen; omega))
  have HR : Hid (RowAt w (.slice ao n ac) n (flatP ts) ∧ ts.length = n ∧ (ao = none → ac = 0)) := ⟨hr, hn, hnil⟩
  clear hr hn hW hbW hnil
  go_enter Try.func6, Try.ntmps6
  go_wp2_with fail
  rw [← HW.out.1]
  refine HF.out.mono ?_; rintro e w1 ⟨rfl, hb1⟩
  obtain ⟨a0, a1, az⟩ := blk2 (blk_nx HW.out.2.1 hb1)
  have hz1 : w.heap.size + 3 ≤ w1.heap.size := by have := hb1.size; rw [HW.out.2.2.2.2.1] at this; exact this
  have HM1 : Hid (Below W.heap.size W w1 ∧ RowAt w1 (.slice ao n ac) n (flatP ts)) := ⟨hb1, HR.out.1.nx (nx_trans HW.out.2.2.2.2.2 hb1)⟩
  clear hb1 HF
  have q1 := fun o => (blk2 (blk_nx (blk_nx HW.out.2.1 HM1.out.1) (nx_alloc w1 o))).2.1
  go_wp2_with (at_builtin; refine appendG 37 22 4 40 _ info_P Try.underlying22 rfl (by decide) (by decide) rfl (.tmp 17) (.tmp 19) rfl (w1.heap.size + 1) _ 0 [] rfl (World.ownsRow_nil _ _ _ _) ao n ac (flatP ts) rfl (by rw [flatP_len, HR.out.2.1]) (HM1.out.2.nx (nx_alloc _ _)) (flatP_one ts) HR.out.2.2 (by omega) (by simp) ?next)
  case next =>
    intro v' w3 hown3 hb3
    obtain ⟨vo, vc, rfl, _⟩ := own_row hown3
    have hb3' : Below (w1.heap.size + 1) (w1.alloc (bTab b (.slice none 0 0))) w3 := hb3
    have h3o : w3.heap[w1.heap.size]? = some (bTab b (.slice none 0 0)) := (hb3'.block _ (by omega)).trans (heap_alloc_at _ _ rfl)
    obtain ⟨o0, o1, oz⟩ := blk2 h3o
    have hlow : ∀ g o, W.heap[g]? = some o → w3.heap[g]? = some o := fun g o h => (hb3'.block g (by have := (Array.getElem?_eq_some_iff.1 (blk_nx h HM1.out.1)).1; omega)).trans (blk_nx (blk_nx h HM1.out.1) (nx_alloc _ _))
    obtain ⟨U, hU⟩ : ∃ U, U = w3.setCell ⟨w1.heap.size, 1, none⟩ (.slice vo n vc) := ⟨_, rfl⟩
    have HU : Hid (U = w3.setCell ⟨w1.heap.size, 1, none⟩ (.slice vo n vc) ∧ Mid w b (.slice ao n ac) 1 nm N w1.heap.size vo n vc ts U ∧ w1.heap.size < U.heap.size) := by
      have hs : ∀ g, g < w1.heap.size → U.heap[g]? = w3.heap[g]? := fun g hg => by rw [hU]; exact Below.heap_setCell _ _ _ _ (by show g ≠ w1.heap.size; omega)
      have hzW := HW.out.2.2.2.2.1
      refine ⟨hU, ⟨(hs _ (by omega)).trans (hlow _ _ HW.out.2.1), (hs _ (by omega)).trans (hlow _ _ HW.out.2.2.1), (hs _ (by omega)).trans (hlow _ _ HW.out.2.2.2.1), ?_, ?_, ?_, hz1⟩, ?_⟩
      · rw [hU]; exact set_heap _ _ _ _ _ _ h3o
      · rw [hU]; exact ownsRow_setCell_below (by simpa using hown3) (by show w1.heap.size < _; omega) _
      · rw [hU]
        refine ((nx_trans HW.out.2.2.2.2.2 (nx_trans HM1.out.1 (nx_alloc _ _))).trans (hb3'.mono (by omega))).setCell ?_ _
        show w.heap.size ≤ w1.heap.size
        omega
      · rw [hU]
        have := (Array.getElem?_eq_some_iff.1 h3o).1
        simpa using this
    have HRU : Hid (RowAt U (.slice ao n ac) n (flatP ts)) := HR.out.1.nx HU.out.2.1.bel
    clear hown3 hb3 hb3' hU hlow h3o
    go_upto_region 4 with fail
    rw [← HU.out.1]
    clear o0 o1 oz a0 a1 az q1
    obtain ⟨a0, a1, az⟩ := blk2 HU.out.2.1.h0
    obtain ⟨s0, s1, s2, sz⟩ := blk3s HU.out.2.1.h1
    obtain ⟨r0, r1, rz⟩ := blk2 HU.out.2.1.h2
    obtain ⟨o0, o1, oz⟩ := blk2 HU.out.2.1.h3
    have hgo := HU.out.2.1.go
    obtain ⟨bl, off, hao, hbl, c0, c1, c2, c3⟩ := pool_at HRU.out hx
    obtain ⟨gl, of2, hvo, hgl, d0, d1, d2, d3⟩ := pool_at (own_row HU.out.2.1.own) hx
    subst hao
    subst hvo
    have HO : Hid (of2 = 0 ∧ w1.heap.size + 1 ≤ gl) := by
      refine ⟨?_, (HU.out.2.1.own.lt gl rfl).1⟩
      rcases HU.out.2.1.own.2 with ⟨h', _⟩ | ⟨g', cap', cur, h', _⟩
      · simp at h'
      · simp at h'; exact h'.1.2
    have hz : ∀ a, U.frozen? ⟨gl, a, none⟩ = false := by
      have h := HU.out.2.1.own
      rw [HO.out.1] at h
      exact fun a => h.frozenAt a
    have hkn : (k : Int) < (n : Int) := by
      have := (List.getElem?_eq_some_iff.1 hx).1
      rw [HR.out.2.1] at this
      omega
    have e0 : ¬ (k : Int) < 0 := by omega
    obtain ⟨x0, x1, x2, x3⟩ := x
    simp only at c0 c1 c2 c3 d0 d1 d2 d3 hN
    have HX := hideIt hx
    clear hx
    clear hk
    unfold optI
    obtain ⟨V, hV⟩ : ∃ V, V = U.alloc (bPl ⟨x0, x1, x2, x3⟩) := ⟨_, rfl⟩
    have HV : Hid (V = U.alloc (bPl ⟨x0, x1, x2, x3⟩) ∧ Mid w b (.slice (some ⟨bl, off, none⟩) n ac) 1 nm N w1.heap.size (some ⟨gl, of2, none⟩) n vc ts V ∧ V.heap[U.heap.size]? = some (bPl ⟨x0, x1, x2, x3⟩)) := by
      refine ⟨hV, ?_, ?_⟩
      · rw [hV]; exact HU.out.2.1.nx (nx_alloc _ _)
      · rw [hV]; exact heap_alloc_at _ _ rfl
    clear hV
    go_upto_region 15 with fail
    rw [← HV.out.1]
    clear a0 a1 az s0 s1 s2 sz r0 r1 rz o0 o1 oz c0 c1 c2 c3 d0 d1 d2 d3 hz
    obtain ⟨s0, s1, s2, sz⟩ := blk3s HV.out.2.1.h1
    obtain ⟨o0, o1, oz⟩ := blk2 HV.out.2.1.h3
    obtain ⟨gl', of2', hvo, hgl2, d0, d1, d2, d3⟩ := pool_at (own_row HV.out.2.1.own) HX.out
    obtain ⟨rfl, rfl⟩ : gl = gl' ∧ of2 = of2' := by simpa using hvo
    have hz : ∀ a, V.frozen? ⟨gl, a, none⟩ = false := by
      have h := HV.out.2.1.own
      rw [HO.out.1] at h
      exact fun a => h.frozenAt a
    obtain ⟨X, hX⟩ : ∃ X, X = V.setCell ⟨gl, of2 + k * 4 + 1, none⟩ (.int .i64 N) := ⟨_, rfl⟩
    have HF : Hid (X = V.setCell ⟨gl, of2 + k * 4 + 1, none⟩ (.int .i64 N) ∧ Fin w 1 nm N w1.heap.size b (some ⟨gl, of2, none⟩) n vc (ts.set k ⟨x0, N, x2, x3⟩) X ∧ X.heap[U.heap.size]? = some (bPl ⟨x0, x1, x2, x3⟩)) := by
      have hs : ∀ g, g ≠ gl → X.heap[g]? = V.heap[g]? := fun g hg => by rw [hX]; exact Below.heap_setCell _ _ _ _ (by show g ≠ gl; exact hg)
      have h1 := HO.out.2
      refine ⟨hX, ⟨(hs _ (by omega)).trans HV.out.2.1.h1, (hs _ (by omega)).trans HV.out.2.1.h2, (hs _ (by omega)).trans HV.out.2.1.h3, ?_, ?_, hgo⟩, (hs _ (by omega)).trans HV.out.2.2⟩
      · have h := HV.out.2.1.own
        have e := HO.out.1
        subst e
        rw [← (flatP_set ts k ⟨x0, x1, x2, x3⟩ HX.out).1 N, hX]
        have := (h.stored (k * 4 + 1) (.int .i64 N)).1
        simpa [Nat.add_assoc] using this
      · rw [hX]; exact HV.out.2.1.bel.setCell (by show w.heap.size ≤ gl; omega) _
    clear hX hvo
    go_upto_region 18 with fail
    rw [← HF.out.1]
    clear s0 s1 s2 sz o0 o1 oz d0 d1 d2 d3 hz
    obtain ⟨s0, s1, s2, sz⟩ := blk3s HF.out.2.1.h1
    obtain ⟨r0, r1, rz⟩ := blk2 HF.out.2.1.h2
    obtain ⟨o0, o1, oz⟩ := blk2 HF.out.2.1.h3
    obtain ⟨p0, p1, p2, p3, pz⟩ := blk4 (Below.refl X.heap.size X) (Array.getElem?_eq_some_iff.1 HF.out.2.2).1 HF.out.2.2
    have HL : Hid ((ts.set k ⟨x0, N, x2, x3⟩).length = n) := by rw [List.length_set]; exact HR.out.2.1
    have hgu := HU.out.2.2
    go_region
    go_wp2_with fail
    refine bodyPost_ret (v := .tuple #[.agg #[.int .i64 b, .slice (some ⟨gl, of2, none⟩) n vc], .bool true]) (by simp [results, Try.results6, go_sem, r0, r1]) rfl ?_
    exact (HF.out.2.1.gave HL.out).drew
set_option maxRecDepth 20000 in
set_option maxHeartbeats 4000000 in
theorem kStep5 (b : Int) (ao : Option Addr) (n ac : Nat) (ts : List Pl) (nm : ByteArray) (N : Int) (w : World) (hr : RowAt w (.slice ao n ac) n (flatP ts)) (hn : ts.length = n) (hn2 : n ≤ 6) (hnil : ao = none → ac = 0) (k : Nat) (x : Pl) (hk : ts.findIdx? (isNameP nm) = some k) (hx : ts[k]? = some x) (hN : N ≠ x.fr) :
    Calls Try.prog 6 #[.agg #[.int .i64 b, .slice ao n ac], sA 5 nm N] w fun e w' => GaveT w w' (b) (ts.set k ⟨x.nm, x.sz, x.wt, N⟩) e := by
  obtain ⟨W, hW⟩ : ∃ W, W = ((w.alloc (bTab b (.slice ao n ac))).alloc (bStp 5 nm N)).alloc (bTab 0 (.slice none 0 0)) := ⟨_, rfl⟩
  have hbW : Below w.heap.size w W := by rw [hW]; exact nx_trans (nx_trans (nx_alloc _ _) (nx_alloc _ _)) (nx_alloc _ _)
  have HW : Hid (W = ((w.alloc (bTab b (.slice ao n ac))).alloc (bStp 5 nm N)).alloc (bTab 0 (.slice none 0 0)) ∧ W.heap[w.heap.size]? = some (bTab b (.slice ao n ac)) ∧ W.heap[w.heap.size + 1]? = some (bStp 5 nm N) ∧ W.heap[w.heap.size + 2]? = some (bTab 0 (.slice none 0 0)) ∧ W.heap.size = w.heap.size + 3 ∧ Below w.heap.size w W) := by
    refine ⟨hW, ?_, ?_, ?_, ?_, hbW⟩
    · rw [hW]; exact (heap_alloc_lt _ _ (by simp; omega)).trans ((heap_alloc_lt _ _ (by simp)).trans (heap_alloc_at _ _ rfl))
    · rw [hW]; exact (heap_alloc_lt _ _ (by simp)).trans (heap_alloc_at _ _ (by simp))
    · rw [hW]; exact heap_alloc_at _ _ (by simp)
    · rw [hW]; simp
  have HF := hideIt (kAt b ao n ac nm ts W (hr.nx hbW) hn (by unfold maxLen; omega))
  have HR : Hid (RowAt w (.slice ao n ac) n (flatP ts) ∧ ts.length = n ∧ (ao = none → ac = 0)) := ⟨hr, hn, hnil⟩
  clear hr hn hW hbW hnil
  go_enter Try.func6, Try.ntmps6
  go_wp2_with fail
  rw [← HW.out.1]
  refine HF.out.mono ?_; rintro e w1 ⟨rfl, hb1⟩
  obtain ⟨a0, a1, az⟩ := blk2 (blk_nx HW.out.2.1 hb1)
  have hz1 : w.heap.size + 3 ≤ w1.heap.size := by have := hb1.size; rw [HW.out.2.2.2.2.1] at this; exact this
  have HM1 : Hid (Below W.heap.size W w1 ∧ RowAt w1 (.slice ao n ac) n (flatP ts)) := ⟨hb1, HR.out.1.nx (nx_trans HW.out.2.2.2.2.2 hb1)⟩
  clear hb1 HF
  have q1 := fun o => (blk2 (blk_nx (blk_nx HW.out.2.1 HM1.out.1) (nx_alloc w1 o))).2.1
  go_wp2_with (at_builtin; refine appendG 37 22 4 40 _ info_P Try.underlying22 rfl (by decide) (by decide) rfl (.tmp 17) (.tmp 19) rfl (w1.heap.size + 1) _ 0 [] rfl (World.ownsRow_nil _ _ _ _) ao n ac (flatP ts) rfl (by rw [flatP_len, HR.out.2.1]) (HM1.out.2.nx (nx_alloc _ _)) (flatP_one ts) HR.out.2.2 (by omega) (by simp) ?next)
  case next =>
    intro v' w3 hown3 hb3
    obtain ⟨vo, vc, rfl, _⟩ := own_row hown3
    have hb3' : Below (w1.heap.size + 1) (w1.alloc (bTab b (.slice none 0 0))) w3 := hb3
    have h3o : w3.heap[w1.heap.size]? = some (bTab b (.slice none 0 0)) := (hb3'.block _ (by omega)).trans (heap_alloc_at _ _ rfl)
    obtain ⟨o0, o1, oz⟩ := blk2 h3o
    have hlow : ∀ g o, W.heap[g]? = some o → w3.heap[g]? = some o := fun g o h => (hb3'.block g (by have := (Array.getElem?_eq_some_iff.1 (blk_nx h HM1.out.1)).1; omega)).trans (blk_nx (blk_nx h HM1.out.1) (nx_alloc _ _))
    obtain ⟨U, hU⟩ : ∃ U, U = w3.setCell ⟨w1.heap.size, 1, none⟩ (.slice vo n vc) := ⟨_, rfl⟩
    have HU : Hid (U = w3.setCell ⟨w1.heap.size, 1, none⟩ (.slice vo n vc) ∧ Mid w b (.slice ao n ac) 5 nm N w1.heap.size vo n vc ts U ∧ w1.heap.size < U.heap.size) := by
      have hs : ∀ g, g < w1.heap.size → U.heap[g]? = w3.heap[g]? := fun g hg => by rw [hU]; exact Below.heap_setCell _ _ _ _ (by show g ≠ w1.heap.size; omega)
      have hzW := HW.out.2.2.2.2.1
      refine ⟨hU, ⟨(hs _ (by omega)).trans (hlow _ _ HW.out.2.1), (hs _ (by omega)).trans (hlow _ _ HW.out.2.2.1), (hs _ (by omega)).trans (hlow _ _ HW.out.2.2.2.1), ?_, ?_, ?_, hz1⟩, ?_⟩
      · rw [hU]; exact set_heap _ _ _ _ _ _ h3o
      · rw [hU]; exact ownsRow_setCell_below (by simpa using hown3) (by show w1.heap.size < _; omega) _
      · rw [hU]
        refine ((nx_trans HW.out.2.2.2.2.2 (nx_trans HM1.out.1 (nx_alloc _ _))).trans (hb3'.mono (by omega))).setCell ?_ _
        show w.heap.size ≤ w1.heap.size
        omega
      · rw [hU]
        have := (Array.getElem?_eq_some_iff.1 h3o).1
        simpa using this
    have HRU : Hid (RowAt U (.slice ao n ac) n (flatP ts)) := HR.out.1.nx HU.out.2.1.bel
    clear hown3 hb3 hb3' hU hlow h3o
    go_upto_region 4 with fail
    rw [← HU.out.1]
    clear o0 o1 oz a0 a1 az q1
    obtain ⟨a0, a1, az⟩ := blk2 HU.out.2.1.h0
    obtain ⟨s0, s1, s2, sz⟩ := blk3s HU.out.2.1.h1
    obtain ⟨r0, r1, rz⟩ := blk2 HU.out.2.1.h2
    obtain ⟨o0, o1, oz⟩ := blk2 HU.out.2.1.h3
    have hgo := HU.out.2.1.go
    obtain ⟨bl, off, hao, hbl, c0, c1, c2, c3⟩ := pool_at HRU.out hx
    obtain ⟨gl, of2, hvo, hgl, d0, d1, d2, d3⟩ := pool_at (own_row HU.out.2.1.own) hx
    subst hao
    subst hvo
    have HO : Hid (of2 = 0 ∧ w1.heap.size + 1 ≤ gl) := by
      refine ⟨?_, (HU.out.2.1.own.lt gl rfl).1⟩
      rcases HU.out.2.1.own.2 with ⟨h', _⟩ | ⟨g', cap', cur, h', _⟩
      · simp at h'
      · simp at h'; exact h'.1.2
    have hz : ∀ a, U.frozen? ⟨gl, a, none⟩ = false := by
      have h := HU.out.2.1.own
      rw [HO.out.1] at h
      exact fun a => h.frozenAt a
    have hkn : (k : Int) < (n : Int) := by
      have := (List.getElem?_eq_some_iff.1 hx).1
      rw [HR.out.2.1] at this
      omega
    have e0 : ¬ (k : Int) < 0 := by omega
    obtain ⟨x0, x1, x2, x3⟩ := x
    simp only at c0 c1 c2 c3 d0 d1 d2 d3 hN
    have HX := hideIt hx
    clear hx
    clear hk
    unfold optI
    obtain ⟨V, hV⟩ : ∃ V, V = U.alloc (bPl ⟨x0, x1, x2, x3⟩) := ⟨_, rfl⟩
    have HV : Hid (V = U.alloc (bPl ⟨x0, x1, x2, x3⟩) ∧ Mid w b (.slice (some ⟨bl, off, none⟩) n ac) 5 nm N w1.heap.size (some ⟨gl, of2, none⟩) n vc ts V ∧ V.heap[U.heap.size]? = some (bPl ⟨x0, x1, x2, x3⟩)) := by
      refine ⟨hV, ?_, ?_⟩
      · rw [hV]; exact HU.out.2.1.nx (nx_alloc _ _)
      · rw [hV]; exact heap_alloc_at _ _ rfl
    clear hV
    go_upto_region 15 with fail
    rw [← HV.out.1]
    clear a0 a1 az s0 s1 s2 sz r0 r1 rz o0 o1 oz c0 c1 c2 c3 d0 d1 d2 d3 hz
    obtain ⟨s0, s1, s2, sz⟩ := blk3s HV.out.2.1.h1
    obtain ⟨o0, o1, oz⟩ := blk2 HV.out.2.1.h3
    obtain ⟨gl', of2', hvo, hgl2, d0, d1, d2, d3⟩ := pool_at (own_row HV.out.2.1.own) HX.out
    obtain ⟨rfl, rfl⟩ : gl = gl' ∧ of2 = of2' := by simpa using hvo
    have hz : ∀ a, V.frozen? ⟨gl, a, none⟩ = false := by
      have h := HV.out.2.1.own
      rw [HO.out.1] at h
      exact fun a => h.frozenAt a
    obtain ⟨X, hX⟩ : ∃ X, X = V.setCell ⟨gl, of2 + k * 4 + 3, none⟩ (.int .i64 N) := ⟨_, rfl⟩
    have HF : Hid (X = V.setCell ⟨gl, of2 + k * 4 + 3, none⟩ (.int .i64 N) ∧ Fin w 5 nm N w1.heap.size b (some ⟨gl, of2, none⟩) n vc (ts.set k ⟨x0, x1, x2, N⟩) X ∧ X.heap[U.heap.size]? = some (bPl ⟨x0, x1, x2, x3⟩)) := by
      have hs : ∀ g, g ≠ gl → X.heap[g]? = V.heap[g]? := fun g hg => by rw [hX]; exact Below.heap_setCell _ _ _ _ (by show g ≠ gl; exact hg)
      have h1 := HO.out.2
      refine ⟨hX, ⟨(hs _ (by omega)).trans HV.out.2.1.h1, (hs _ (by omega)).trans HV.out.2.1.h2, (hs _ (by omega)).trans HV.out.2.1.h3, ?_, ?_, hgo⟩, (hs _ (by omega)).trans HV.out.2.2⟩
      · have h := HV.out.2.1.own
        have e := HO.out.1
        subst e
        rw [← (flatP_set ts k ⟨x0, x1, x2, x3⟩ HX.out).2.2 N, hX]
        have := (h.stored (k * 4 + 3) (.int .i64 N)).1
        simpa [Nat.add_assoc] using this
      · rw [hX]; exact HV.out.2.1.bel.setCell (by show w.heap.size ≤ gl; omega) _
    clear hX hvo
    go_upto_region 24 with fail
    rw [← HF.out.1]
    clear s0 s1 s2 sz o0 o1 oz d0 d1 d2 d3 hz
    obtain ⟨s0, s1, s2, sz⟩ := blk3s HF.out.2.1.h1
    obtain ⟨r0, r1, rz⟩ := blk2 HF.out.2.1.h2
    obtain ⟨o0, o1, oz⟩ := blk2 HF.out.2.1.h3
    obtain ⟨p0, p1, p2, p3, pz⟩ := blk4 (Below.refl X.heap.size X) (Array.getElem?_eq_some_iff.1 HF.out.2.2).1 HF.out.2.2
    have HL : Hid ((ts.set k ⟨x0, x1, x2, N⟩).length = n) := by rw [List.length_set]; exact HR.out.2.1
    have hgu := HU.out.2.2
    have hNb : (N != x3) = true := by simpa using hN
    go_region
    go_wp2_with fail
    refine bodyPost_ret (v := .tuple #[.agg #[.int .i64 b, .slice (some ⟨gl, of2, none⟩) n vc], .bool true]) (by simp [results, Try.results6, go_sem, r0, r1]) rfl ?_
    exact (HF.out.2.1.gave HL.out).drew
set_option maxRecDepth 20000 in
set_option maxHeartbeats 4000000 in
theorem kStep6 (b : Int) (ao : Option Addr) (n ac : Nat) (ts : List Pl) (nm : ByteArray) (N : Int) (w : World) (hr : RowAt w (.slice ao n ac) n (flatP ts)) (hn : ts.length = n) (hn2 : n ≤ 6) (hnil : ao = none → ac = 0) (k : Nat) (x : Pl) (hk : ts.findIdx? (isNameP nm) = some k) (hx : ts[k]? = some x) (hN : N ≠ x.wt) :
    Calls Try.prog 6 #[.agg #[.int .i64 b, .slice ao n ac], sA 6 nm N] w fun e w' => GaveT w w' (b) (ts.set k ⟨x.nm, x.sz, N, x.fr⟩) e := by
  obtain ⟨W, hW⟩ : ∃ W, W = ((w.alloc (bTab b (.slice ao n ac))).alloc (bStp 6 nm N)).alloc (bTab 0 (.slice none 0 0)) := ⟨_, rfl⟩
  have hbW : Below w.heap.size w W := by rw [hW]; exact nx_trans (nx_trans (nx_alloc _ _) (nx_alloc _ _)) (nx_alloc _ _)
  have HW : Hid (W = ((w.alloc (bTab b (.slice ao n ac))).alloc (bStp 6 nm N)).alloc (bTab 0 (.slice none 0 0)) ∧ W.heap[w.heap.size]? = some (bTab b (.slice ao n ac)) ∧ W.heap[w.heap.size + 1]? = some (bStp 6 nm N) ∧ W.heap[w.heap.size + 2]? = some (bTab 0 (.slice none 0 0)) ∧ W.heap.size = w.heap.size + 3 ∧ Below w.heap.size w W) := by
    refine ⟨hW, ?_, ?_, ?_, ?_, hbW⟩
    · rw [hW]; exact (heap_alloc_lt _ _ (by simp; omega)).trans ((heap_alloc_lt _ _ (by simp)).trans (heap_alloc_at _ _ rfl))
    · rw [hW]; exact (heap_alloc_lt _ _ (by simp)).trans (heap_alloc_at _ _ (by simp))
    · rw [hW]; exact heap_alloc_at _ _ (by simp)
    · rw [hW]; simp
  have HF := hideIt (kAt b ao n ac nm ts W (hr.nx hbW) hn (by unfold maxLen; omega))
  have HR : Hid (RowAt w (.slice ao n ac) n (flatP ts) ∧ ts.length = n ∧ (ao = none → ac = 0)) := ⟨hr, hn, hnil⟩
  clear hr hn hW hbW hnil
  go_enter Try.func6, Try.ntmps6
  go_wp2_with fail
  rw [← HW.out.1]
  refine HF.out.mono ?_; rintro e w1 ⟨rfl, hb1⟩
  obtain ⟨a0, a1, az⟩ := blk2 (blk_nx HW.out.2.1 hb1)
  have hz1 : w.heap.size + 3 ≤ w1.heap.size := by have := hb1.size; rw [HW.out.2.2.2.2.1] at this; exact this
  have HM1 : Hid (Below W.heap.size W w1 ∧ RowAt w1 (.slice ao n ac) n (flatP ts)) := ⟨hb1, HR.out.1.nx (nx_trans HW.out.2.2.2.2.2 hb1)⟩
  clear hb1 HF
  have q1 := fun o => (blk2 (blk_nx (blk_nx HW.out.2.1 HM1.out.1) (nx_alloc w1 o))).2.1
  go_wp2_with (at_builtin; refine appendG 37 22 4 40 _ info_P Try.underlying22 rfl (by decide) (by decide) rfl (.tmp 17) (.tmp 19) rfl (w1.heap.size + 1) _ 0 [] rfl (World.ownsRow_nil _ _ _ _) ao n ac (flatP ts) rfl (by rw [flatP_len, HR.out.2.1]) (HM1.out.2.nx (nx_alloc _ _)) (flatP_one ts) HR.out.2.2 (by omega) (by simp) ?next)
  case next =>
    intro v' w3 hown3 hb3
    obtain ⟨vo, vc, rfl, _⟩ := own_row hown3
    have hb3' : Below (w1.heap.size + 1) (w1.alloc (bTab b (.slice none 0 0))) w3 := hb3
    have h3o : w3.heap[w1.heap.size]? = some (bTab b (.slice none 0 0)) := (hb3'.block _ (by omega)).trans (heap_alloc_at _ _ rfl)
    obtain ⟨o0, o1, oz⟩ := blk2 h3o
    have hlow : ∀ g o, W.heap[g]? = some o → w3.heap[g]? = some o := fun g o h => (hb3'.block g (by have := (Array.getElem?_eq_some_iff.1 (blk_nx h HM1.out.1)).1; omega)).trans (blk_nx (blk_nx h HM1.out.1) (nx_alloc _ _))
    obtain ⟨U, hU⟩ : ∃ U, U = w3.setCell ⟨w1.heap.size, 1, none⟩ (.slice vo n vc) := ⟨_, rfl⟩
    have HU : Hid (U = w3.setCell ⟨w1.heap.size, 1, none⟩ (.slice vo n vc) ∧ Mid w b (.slice ao n ac) 6 nm N w1.heap.size vo n vc ts U ∧ w1.heap.size < U.heap.size) := by
      have hs : ∀ g, g < w1.heap.size → U.heap[g]? = w3.heap[g]? := fun g hg => by rw [hU]; exact Below.heap_setCell _ _ _ _ (by show g ≠ w1.heap.size; omega)
      have hzW := HW.out.2.2.2.2.1
      refine ⟨hU, ⟨(hs _ (by omega)).trans (hlow _ _ HW.out.2.1), (hs _ (by omega)).trans (hlow _ _ HW.out.2.2.1), (hs _ (by omega)).trans (hlow _ _ HW.out.2.2.2.1), ?_, ?_, ?_, hz1⟩, ?_⟩
      · rw [hU]; exact set_heap _ _ _ _ _ _ h3o
      · rw [hU]; exact ownsRow_setCell_below (by simpa using hown3) (by show w1.heap.size < _; omega) _
      · rw [hU]
        refine ((nx_trans HW.out.2.2.2.2.2 (nx_trans HM1.out.1 (nx_alloc _ _))).trans (hb3'.mono (by omega))).setCell ?_ _
        show w.heap.size ≤ w1.heap.size
        omega
      · rw [hU]
        have := (Array.getElem?_eq_some_iff.1 h3o).1
        simpa using this
    have HRU : Hid (RowAt U (.slice ao n ac) n (flatP ts)) := HR.out.1.nx HU.out.2.1.bel
    clear hown3 hb3 hb3' hU hlow h3o
    go_upto_region 4 with fail
    rw [← HU.out.1]
    clear o0 o1 oz a0 a1 az q1
    obtain ⟨a0, a1, az⟩ := blk2 HU.out.2.1.h0
    obtain ⟨s0, s1, s2, sz⟩ := blk3s HU.out.2.1.h1
    obtain ⟨r0, r1, rz⟩ := blk2 HU.out.2.1.h2
    obtain ⟨o0, o1, oz⟩ := blk2 HU.out.2.1.h3
    have hgo := HU.out.2.1.go
    obtain ⟨bl, off, hao, hbl, c0, c1, c2, c3⟩ := pool_at HRU.out hx
    obtain ⟨gl, of2, hvo, hgl, d0, d1, d2, d3⟩ := pool_at (own_row HU.out.2.1.own) hx
    subst hao
    subst hvo
    have HO : Hid (of2 = 0 ∧ w1.heap.size + 1 ≤ gl) := by
      refine ⟨?_, (HU.out.2.1.own.lt gl rfl).1⟩
      rcases HU.out.2.1.own.2 with ⟨h', _⟩ | ⟨g', cap', cur, h', _⟩
      · simp at h'
      · simp at h'; exact h'.1.2
    have hz : ∀ a, U.frozen? ⟨gl, a, none⟩ = false := by
      have h := HU.out.2.1.own
      rw [HO.out.1] at h
      exact fun a => h.frozenAt a
    have hkn : (k : Int) < (n : Int) := by
      have := (List.getElem?_eq_some_iff.1 hx).1
      rw [HR.out.2.1] at this
      omega
    have e0 : ¬ (k : Int) < 0 := by omega
    obtain ⟨x0, x1, x2, x3⟩ := x
    simp only at c0 c1 c2 c3 d0 d1 d2 d3 hN
    have HX := hideIt hx
    clear hx
    clear hk
    unfold optI
    obtain ⟨V, hV⟩ : ∃ V, V = U.alloc (bPl ⟨x0, x1, x2, x3⟩) := ⟨_, rfl⟩
    have HV : Hid (V = U.alloc (bPl ⟨x0, x1, x2, x3⟩) ∧ Mid w b (.slice (some ⟨bl, off, none⟩) n ac) 6 nm N w1.heap.size (some ⟨gl, of2, none⟩) n vc ts V ∧ V.heap[U.heap.size]? = some (bPl ⟨x0, x1, x2, x3⟩)) := by
      refine ⟨hV, ?_, ?_⟩
      · rw [hV]; exact HU.out.2.1.nx (nx_alloc _ _)
      · rw [hV]; exact heap_alloc_at _ _ rfl
    clear hV
    go_upto_region 15 with fail
    rw [← HV.out.1]
    clear a0 a1 az s0 s1 s2 sz r0 r1 rz o0 o1 oz c0 c1 c2 c3 d0 d1 d2 d3 hz
    obtain ⟨s0, s1, s2, sz⟩ := blk3s HV.out.2.1.h1
    obtain ⟨o0, o1, oz⟩ := blk2 HV.out.2.1.h3
    obtain ⟨gl', of2', hvo, hgl2, d0, d1, d2, d3⟩ := pool_at (own_row HV.out.2.1.own) HX.out
    obtain ⟨rfl, rfl⟩ : gl = gl' ∧ of2 = of2' := by simpa using hvo
    have hz : ∀ a, V.frozen? ⟨gl, a, none⟩ = false := by
      have h := HV.out.2.1.own
      rw [HO.out.1] at h
      exact fun a => h.frozenAt a
    obtain ⟨X, hX⟩ : ∃ X, X = V.setCell ⟨gl, of2 + k * 4 + 2, none⟩ (.int .i64 N) := ⟨_, rfl⟩
    have HF : Hid (X = V.setCell ⟨gl, of2 + k * 4 + 2, none⟩ (.int .i64 N) ∧ Fin w 6 nm N w1.heap.size b (some ⟨gl, of2, none⟩) n vc (ts.set k ⟨x0, x1, N, x3⟩) X ∧ X.heap[U.heap.size]? = some (bPl ⟨x0, x1, x2, x3⟩)) := by
      have hs : ∀ g, g ≠ gl → X.heap[g]? = V.heap[g]? := fun g hg => by rw [hX]; exact Below.heap_setCell _ _ _ _ (by show g ≠ gl; exact hg)
      have h1 := HO.out.2
      refine ⟨hX, ⟨(hs _ (by omega)).trans HV.out.2.1.h1, (hs _ (by omega)).trans HV.out.2.1.h2, (hs _ (by omega)).trans HV.out.2.1.h3, ?_, ?_, hgo⟩, (hs _ (by omega)).trans HV.out.2.2⟩
      · have h := HV.out.2.1.own
        have e := HO.out.1
        subst e
        rw [← (flatP_set ts k ⟨x0, x1, x2, x3⟩ HX.out).2.1 N, hX]
        have := (h.stored (k * 4 + 2) (.int .i64 N)).1
        simpa [Nat.add_assoc] using this
      · rw [hX]; exact HV.out.2.1.bel.setCell (by show w.heap.size ≤ gl; omega) _
    clear hX hvo
    go_upto_region 27 with fail
    rw [← HF.out.1]
    clear s0 s1 s2 sz o0 o1 oz d0 d1 d2 d3 hz
    obtain ⟨s0, s1, s2, sz⟩ := blk3s HF.out.2.1.h1
    obtain ⟨r0, r1, rz⟩ := blk2 HF.out.2.1.h2
    obtain ⟨o0, o1, oz⟩ := blk2 HF.out.2.1.h3
    obtain ⟨p0, p1, p2, p3, pz⟩ := blk4 (Below.refl X.heap.size X) (Array.getElem?_eq_some_iff.1 HF.out.2.2).1 HF.out.2.2
    have HL : Hid ((ts.set k ⟨x0, x1, N, x3⟩).length = n) := by rw [List.length_set]; exact HR.out.2.1
    have hgu := HU.out.2.2
    have hNb : (N != x2) = true := by simpa using hN
    go_region
    go_wp2_with fail
    refine bodyPost_ret (v := .tuple #[.agg #[.int .i64 b, .slice (some ⟨gl, of2, none⟩) n vc], .bool true]) (by simp [results, Try.results6, go_sem, r0, r1]) rfl ?_
    exact (HF.out.2.1.gave HL.out).drew
set_option maxRecDepth 20000 in
set_option maxHeartbeats 4000000 in
theorem kStep8 (b : Int) (ao : Option Addr) (n ac : Nat) (ts : List Pl) (nm : ByteArray) (N : Int) (w : World) (hr : RowAt w (.slice ao n ac) n (flatP ts)) (hn : ts.length = n) (hn2 : n ≤ 6) (hnil : ao = none → ac = 0) (k : Nat) (x : Pl) (hk : ts.findIdx? (isNameP nm) = some k) (hx : ts[k]? = some x) (hN : x.sz < N) :
    Calls Try.prog 6 #[.agg #[.int .i64 b, .slice ao n ac], sA 8 nm N] w fun e w' => GaveT w w' (b) (ts.set k ⟨x.nm, N, x.wt, x.fr⟩) e := by
  obtain ⟨W, hW⟩ : ∃ W, W = ((w.alloc (bTab b (.slice ao n ac))).alloc (bStp 8 nm N)).alloc (bTab 0 (.slice none 0 0)) := ⟨_, rfl⟩
  have hbW : Below w.heap.size w W := by rw [hW]; exact nx_trans (nx_trans (nx_alloc _ _) (nx_alloc _ _)) (nx_alloc _ _)
  have HW : Hid (W = ((w.alloc (bTab b (.slice ao n ac))).alloc (bStp 8 nm N)).alloc (bTab 0 (.slice none 0 0)) ∧ W.heap[w.heap.size]? = some (bTab b (.slice ao n ac)) ∧ W.heap[w.heap.size + 1]? = some (bStp 8 nm N) ∧ W.heap[w.heap.size + 2]? = some (bTab 0 (.slice none 0 0)) ∧ W.heap.size = w.heap.size + 3 ∧ Below w.heap.size w W) := by
    refine ⟨hW, ?_, ?_, ?_, ?_, hbW⟩
    · rw [hW]; exact (heap_alloc_lt _ _ (by simp; omega)).trans ((heap_alloc_lt _ _ (by simp)).trans (heap_alloc_at _ _ rfl))
    · rw [hW]; exact (heap_alloc_lt _ _ (by simp)).trans (heap_alloc_at _ _ (by simp))
    · rw [hW]; exact heap_alloc_at _ _ (by simp)
    · rw [hW]; simp
  have HF := hideIt (kAt b ao n ac nm ts W (hr.nx hbW) hn (by unfold maxLen; omega))
  have HR : Hid (RowAt w (.slice ao n ac) n (flatP ts) ∧ ts.length = n ∧ (ao = none → ac = 0)) := ⟨hr, hn, hnil⟩
  clear hr hn hW hbW hnil
  go_enter Try.func6, Try.ntmps6
  go_wp2_with fail
  rw [← HW.out.1]
  refine HF.out.mono ?_; rintro e w1 ⟨rfl, hb1⟩
  obtain ⟨a0, a1, az⟩ := blk2 (blk_nx HW.out.2.1 hb1)
  have hz1 : w.heap.size + 3 ≤ w1.heap.size := by have := hb1.size; rw [HW.out.2.2.2.2.1] at this; exact this
  have HM1 : Hid (Below W.heap.size W w1 ∧ RowAt w1 (.slice ao n ac) n (flatP ts)) := ⟨hb1, HR.out.1.nx (nx_trans HW.out.2.2.2.2.2 hb1)⟩
  clear hb1 HF
  have q1 := fun o => (blk2 (blk_nx (blk_nx HW.out.2.1 HM1.out.1) (nx_alloc w1 o))).2.1
  go_wp2_with (at_builtin; refine appendG 37 22 4 40 _ info_P Try.underlying22 rfl (by decide) (by decide) rfl (.tmp 17) (.tmp 19) rfl (w1.heap.size + 1) _ 0 [] rfl (World.ownsRow_nil _ _ _ _) ao n ac (flatP ts) rfl (by rw [flatP_len, HR.out.2.1]) (HM1.out.2.nx (nx_alloc _ _)) (flatP_one ts) HR.out.2.2 (by omega) (by simp) ?next)
  case next =>
    intro v' w3 hown3 hb3
    obtain ⟨vo, vc, rfl, _⟩ := own_row hown3
    have hb3' : Below (w1.heap.size + 1) (w1.alloc (bTab b (.slice none 0 0))) w3 := hb3
    have h3o : w3.heap[w1.heap.size]? = some (bTab b (.slice none 0 0)) := (hb3'.block _ (by omega)).trans (heap_alloc_at _ _ rfl)
    obtain ⟨o0, o1, oz⟩ := blk2 h3o
    have hlow : ∀ g o, W.heap[g]? = some o → w3.heap[g]? = some o := fun g o h => (hb3'.block g (by have := (Array.getElem?_eq_some_iff.1 (blk_nx h HM1.out.1)).1; omega)).trans (blk_nx (blk_nx h HM1.out.1) (nx_alloc _ _))
    obtain ⟨U, hU⟩ : ∃ U, U = w3.setCell ⟨w1.heap.size, 1, none⟩ (.slice vo n vc) := ⟨_, rfl⟩
    have HU : Hid (U = w3.setCell ⟨w1.heap.size, 1, none⟩ (.slice vo n vc) ∧ Mid w b (.slice ao n ac) 8 nm N w1.heap.size vo n vc ts U ∧ w1.heap.size < U.heap.size) := by
      have hs : ∀ g, g < w1.heap.size → U.heap[g]? = w3.heap[g]? := fun g hg => by rw [hU]; exact Below.heap_setCell _ _ _ _ (by show g ≠ w1.heap.size; omega)
      have hzW := HW.out.2.2.2.2.1
      refine ⟨hU, ⟨(hs _ (by omega)).trans (hlow _ _ HW.out.2.1), (hs _ (by omega)).trans (hlow _ _ HW.out.2.2.1), (hs _ (by omega)).trans (hlow _ _ HW.out.2.2.2.1), ?_, ?_, ?_, hz1⟩, ?_⟩
      · rw [hU]; exact set_heap _ _ _ _ _ _ h3o
      · rw [hU]; exact ownsRow_setCell_below (by simpa using hown3) (by show w1.heap.size < _; omega) _
      · rw [hU]
        refine ((nx_trans HW.out.2.2.2.2.2 (nx_trans HM1.out.1 (nx_alloc _ _))).trans (hb3'.mono (by omega))).setCell ?_ _
        show w.heap.size ≤ w1.heap.size
        omega
      · rw [hU]
        have := (Array.getElem?_eq_some_iff.1 h3o).1
        simpa using this
    have HRU : Hid (RowAt U (.slice ao n ac) n (flatP ts)) := HR.out.1.nx HU.out.2.1.bel
    clear hown3 hb3 hb3' hU hlow h3o
    go_upto_region 4 with fail
    rw [← HU.out.1]
    clear o0 o1 oz a0 a1 az q1
    obtain ⟨a0, a1, az⟩ := blk2 HU.out.2.1.h0
    obtain ⟨s0, s1, s2, sz⟩ := blk3s HU.out.2.1.h1
    obtain ⟨r0, r1, rz⟩ := blk2 HU.out.2.1.h2
    obtain ⟨o0, o1, oz⟩ := blk2 HU.out.2.1.h3
    have hgo := HU.out.2.1.go
    obtain ⟨bl, off, hao, hbl, c0, c1, c2, c3⟩ := pool_at HRU.out hx
    obtain ⟨gl, of2, hvo, hgl, d0, d1, d2, d3⟩ := pool_at (own_row HU.out.2.1.own) hx
    subst hao
    subst hvo
    have HO : Hid (of2 = 0 ∧ w1.heap.size + 1 ≤ gl) := by
      refine ⟨?_, (HU.out.2.1.own.lt gl rfl).1⟩
      rcases HU.out.2.1.own.2 with ⟨h', _⟩ | ⟨g', cap', cur, h', _⟩
      · simp at h'
      · simp at h'; exact h'.1.2
    have hz : ∀ a, U.frozen? ⟨gl, a, none⟩ = false := by
      have h := HU.out.2.1.own
      rw [HO.out.1] at h
      exact fun a => h.frozenAt a
    have hkn : (k : Int) < (n : Int) := by
      have := (List.getElem?_eq_some_iff.1 hx).1
      rw [HR.out.2.1] at this
      omega
    have e0 : ¬ (k : Int) < 0 := by omega
    obtain ⟨x0, x1, x2, x3⟩ := x
    simp only at c0 c1 c2 c3 d0 d1 d2 d3 hN
    have HX := hideIt hx
    clear hx
    clear hk
    unfold optI
    obtain ⟨V, hV⟩ : ∃ V, V = U.alloc (bPl ⟨x0, x1, x2, x3⟩) := ⟨_, rfl⟩
    have HV : Hid (V = U.alloc (bPl ⟨x0, x1, x2, x3⟩) ∧ Mid w b (.slice (some ⟨bl, off, none⟩) n ac) 8 nm N w1.heap.size (some ⟨gl, of2, none⟩) n vc ts V ∧ V.heap[U.heap.size]? = some (bPl ⟨x0, x1, x2, x3⟩)) := by
      refine ⟨hV, ?_, ?_⟩
      · rw [hV]; exact HU.out.2.1.nx (nx_alloc _ _)
      · rw [hV]; exact heap_alloc_at _ _ rfl
    clear hV
    go_upto_region 15 with fail
    rw [← HV.out.1]
    clear a0 a1 az s0 s1 s2 sz r0 r1 rz o0 o1 oz c0 c1 c2 c3 d0 d1 d2 d3 hz
    obtain ⟨s0, s1, s2, sz⟩ := blk3s HV.out.2.1.h1
    obtain ⟨o0, o1, oz⟩ := blk2 HV.out.2.1.h3
    obtain ⟨gl', of2', hvo, hgl2, d0, d1, d2, d3⟩ := pool_at (own_row HV.out.2.1.own) HX.out
    obtain ⟨rfl, rfl⟩ : gl = gl' ∧ of2 = of2' := by simpa using hvo
    have hz : ∀ a, V.frozen? ⟨gl, a, none⟩ = false := by
      have h := HV.out.2.1.own
      rw [HO.out.1] at h
      exact fun a => h.frozenAt a
    obtain ⟨X, hX⟩ : ∃ X, X = V.setCell ⟨gl, of2 + k * 4 + 1, none⟩ (.int .i64 N) := ⟨_, rfl⟩
    have HF : Hid (X = V.setCell ⟨gl, of2 + k * 4 + 1, none⟩ (.int .i64 N) ∧ Fin w 8 nm N w1.heap.size b (some ⟨gl, of2, none⟩) n vc (ts.set k ⟨x0, N, x2, x3⟩) X ∧ X.heap[U.heap.size]? = some (bPl ⟨x0, x1, x2, x3⟩)) := by
      have hs : ∀ g, g ≠ gl → X.heap[g]? = V.heap[g]? := fun g hg => by rw [hX]; exact Below.heap_setCell _ _ _ _ (by show g ≠ gl; exact hg)
      have h1 := HO.out.2
      refine ⟨hX, ⟨(hs _ (by omega)).trans HV.out.2.1.h1, (hs _ (by omega)).trans HV.out.2.1.h2, (hs _ (by omega)).trans HV.out.2.1.h3, ?_, ?_, hgo⟩, (hs _ (by omega)).trans HV.out.2.2⟩
      · have h := HV.out.2.1.own
        have e := HO.out.1
        subst e
        rw [← (flatP_set ts k ⟨x0, x1, x2, x3⟩ HX.out).1 N, hX]
        have := (h.stored (k * 4 + 1) (.int .i64 N)).1
        simpa [Nat.add_assoc] using this
      · rw [hX]; exact HV.out.2.1.bel.setCell (by show w.heap.size ≤ gl; omega) _
    clear hX hvo
    go_upto_region 30 with fail
    rw [← HF.out.1]
    clear s0 s1 s2 sz o0 o1 oz d0 d1 d2 d3 hz
    obtain ⟨s0, s1, s2, sz⟩ := blk3s HF.out.2.1.h1
    obtain ⟨r0, r1, rz⟩ := blk2 HF.out.2.1.h2
    obtain ⟨o0, o1, oz⟩ := blk2 HF.out.2.1.h3
    obtain ⟨p0, p1, p2, p3, pz⟩ := blk4 (Below.refl X.heap.size X) (Array.getElem?_eq_some_iff.1 HF.out.2.2).1 HF.out.2.2
    have HL : Hid ((ts.set k ⟨x0, N, x2, x3⟩).length = n) := by rw [List.length_set]; exact HR.out.2.1
    have hgu := HU.out.2.2
    go_region
    go_wp2_with fail
    refine bodyPost_ret (v := .tuple #[.agg #[.int .i64 b, .slice (some ⟨gl, of2, none⟩) n vc], .bool true]) (by simp [results, Try.results6, go_sem, r0, r1]) rfl ?_
    exact (HF.out.2.1.gave HL.out).drew
end Df
end Go.Proofs.Ytphkgbbfkibfbaa
