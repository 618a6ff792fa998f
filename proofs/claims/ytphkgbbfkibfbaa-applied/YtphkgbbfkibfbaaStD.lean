
import Derived.Test.YtphkgbbfkibfbaaStB
import Derived.Lib.EndianMore
import Derived.Deep.Upon
import Derived.Laws.IdiomCopy
import Derived.Deep.RegionHeld3
namespace Go.Proofs.Ytphkgbbfkibfbaa
open Go.RowKit
namespace Df
open Co Lw

set_option maxRecDepth 20000 in
set_option maxHeartbeats 4000000 in
theorem kStep2 (b : Int) (ao : Option Addr) (n ac : Nat) (ts : List Pl) (nm : ByteArray) (w : World) (hr : RowAt w (.slice ao n ac) n (flatP ts)) (hn : ts.length = n) (hn2 : n ≤ 6) (hnil : ao = none → ac = 0) (k : Nat) (x : Pl) (hk : ts.findIdx? (isNameP nm) = some k) (hx : ts[k]? = some x) :
    Calls Try.prog 6 #[.agg #[.int .i64 b, .slice ao n ac], sA 2 nm 0] w fun e w' => GaveT w w' (b) (ts.take k ++ ts.drop (k + 1)) e := by
  obtain ⟨W, hW⟩ : ∃ W, W = ((w.alloc (bTab b (.slice ao n ac))).alloc (bStp 2 nm 0)).alloc (bTab 0 (.slice none 0 0)) := ⟨_, rfl⟩
  have hbW : Below w.heap.size w W := by rw [hW]; exact nx_trans (nx_trans (nx_alloc _ _) (nx_alloc _ _)) (nx_alloc _ _)
  have HW : Hid (W = ((w.alloc (bTab b (.slice ao n ac))).alloc (bStp 2 nm 0)).alloc (bTab 0 (.slice none 0 0)) ∧ W.heap[w.heap.size]? = some (bTab b (.slice ao n ac)) ∧ W.heap[w.heap.size + 1]? = some (bStp 2 nm 0) ∧ W.heap[w.heap.size + 2]? = some (bTab 0 (.slice none 0 0)) ∧ W.heap.size = w.heap.size + 3 ∧ Below w.heap.size w W) := by
    refine ⟨hW, ?_, ?_, ?_, ?_, hbW⟩
    · rw [hW]; exact (heap_alloc_lt _ _ (by simp; omega)).trans ((heap_alloc_lt _ _ (by simp)).trans (heap_alloc_at _ _ rfl))
    · rw [hW]; exact (heap_alloc_lt _ _ (by simp)).trans (heap_alloc_at _ _ (by simp))
    · rw [hW]; exact heap_alloc_at _ _ (by simp)
    · rw [hW]; simp
  have HF := hideIt (kAt b ao n ac nm ts W (hr.nx hbW) hn (by unfold maxLen; omega))
  have HR : Hid (RowAt w (.slice ao n ac) n (flatP ts) ∧ ts.length = n ∧ (ao = none → ac = 0)) := ⟨hr, hn, hnil⟩
  clear hr hn hW hbW hnil
  go_enter Try.func6, Try.ntmps6
  go_wp2_with fail
  rw [← HW.out.1]
  refine HF.out.mono ?_; rintro e w1 ⟨rfl, hb1⟩
  obtain ⟨a0, a1, az⟩ := blk2 (blk_nx HW.out.2.1 hb1)
  have hz1 : w.heap.size + 3 ≤ w1.heap.size := by have := hb1.size; rw [HW.out.2.2.2.2.1] at this; exact this
  have HM1 : Hid (Below W.heap.size W w1 ∧ RowAt w1 (.slice ao n ac) n (flatP ts)) := ⟨hb1, HR.out.1.nx (nx_trans HW.out.2.2.2.2.2 hb1)⟩
  clear hb1 HF
  have q1 := fun o => (blk2 (blk_nx (blk_nx HW.out.2.1 HM1.out.1) (nx_alloc w1 o))).2.1
  go_wp2_with (at_builtin; refine appendG 37 22 4 40 _ info_P Try.underlying22 rfl (by decide) (by decide) rfl (.tmp 17) (.tmp 19) rfl (w1.heap.size + 1) _ 0 [] rfl (World.ownsRow_nil _ _ _ _) ao n ac (flatP ts) rfl (by rw [flatP_len, HR.out.2.1]) (HM1.out.2.nx (nx_alloc _ _)) (flatP_one ts) HR.out.2.2 (by omega) (by simp) ?next)
  case next =>
    intro v' w3 hown3 hb3
    obtain ⟨vo, vc, rfl, _⟩ := own_row hown3
    have hb3' : Below (w1.heap.size + 1) (w1.alloc (bTab b (.slice none 0 0))) w3 := hb3
    have h3o : w3.heap[w1.heap.size]? = some (bTab b (.slice none 0 0)) := (hb3'.block _ (by omega)).trans (heap_alloc_at _ _ rfl)
    obtain ⟨o0, o1, oz⟩ := blk2 h3o
    have hlow : ∀ g o, W.heap[g]? = some o → w3.heap[g]? = some o := fun g o h => (hb3'.block g (by have := (Array.getElem?_eq_some_iff.1 (blk_nx h HM1.out.1)).1; omega)).trans (blk_nx (blk_nx h HM1.out.1) (nx_alloc _ _))
    obtain ⟨U, hU⟩ : ∃ U, U = w3.setCell ⟨w1.heap.size, 1, none⟩ (.slice vo n vc) := ⟨_, rfl⟩
    have HU : Hid (U = w3.setCell ⟨w1.heap.size, 1, none⟩ (.slice vo n vc) ∧ Mid w b (.slice ao n ac) 2 nm 0 w1.heap.size vo n vc ts U ∧ w1.heap.size < U.heap.size) := by
      have hs : ∀ g, g < w1.heap.size → U.heap[g]? = w3.heap[g]? := fun g hg => by rw [hU]; exact Below.heap_setCell _ _ _ _ (by show g ≠ w1.heap.size; omega)
      have hzW := HW.out.2.2.2.2.1
      refine ⟨hU, ⟨(hs _ (by omega)).trans (hlow _ _ HW.out.2.1), (hs _ (by omega)).trans (hlow _ _ HW.out.2.2.1), (hs _ (by omega)).trans (hlow _ _ HW.out.2.2.2.1), ?_, ?_, ?_, hz1⟩, ?_⟩
      · rw [hU]; exact set_heap _ _ _ _ _ _ h3o
      · rw [hU]; exact ownsRow_setCell_below (by simpa using hown3) (by show w1.heap.size < _; omega) _
      · rw [hU]
        refine ((nx_trans HW.out.2.2.2.2.2 (nx_trans HM1.out.1 (nx_alloc _ _))).trans (hb3'.mono (by omega))).setCell ?_ _
        show w.heap.size ≤ w1.heap.size
        omega
      · rw [hU]
        have := (Array.getElem?_eq_some_iff.1 h3o).1
        simpa using this
    have HRU : Hid (RowAt U (.slice ao n ac) n (flatP ts)) := HR.out.1.nx HU.out.2.1.bel
    clear hown3 hb3 hb3' hU hlow h3o
    go_upto_region 4 with fail
    rw [← HU.out.1]
    clear o0 o1 oz a0 a1 az q1
    obtain ⟨a0, a1, az⟩ := blk2 HU.out.2.1.h0
    obtain ⟨s0, s1, s2, sz⟩ := blk3s HU.out.2.1.h1
    obtain ⟨r0, r1, rz⟩ := blk2 HU.out.2.1.h2
    obtain ⟨o0, o1, oz⟩ := blk2 HU.out.2.1.h3
    have hgo := HU.out.2.1.go
    obtain ⟨bl, off, hao, hbl, c0, c1, c2, c3⟩ := pool_at HRU.out hx
    obtain ⟨gl, of2, hvo, hgl, d0, d1, d2, d3⟩ := pool_at (own_row HU.out.2.1.own) hx
    subst hao
    subst hvo
    have HO : Hid (of2 = 0 ∧ w1.heap.size + 1 ≤ gl) := by
      refine ⟨?_, (HU.out.2.1.own.lt gl rfl).1⟩
      rcases HU.out.2.1.own.2 with ⟨h', _⟩ | ⟨g', cap', cur, h', _⟩
      · simp at h'
      · simp at h'; exact h'.1.2
    have hz : ∀ a, U.frozen? ⟨gl, a, none⟩ = false := by
      have h := HU.out.2.1.own
      rw [HO.out.1] at h
      exact fun a => h.frozenAt a
    have hkn : (k : Int) < (n : Int) := by
      have := (List.getElem?_eq_some_iff.1 hx).1
      rw [HR.out.2.1] at this
      omega
    have e0 : ¬ (k : Int) < 0 := by omega
    obtain ⟨x0, x1, x2, x3⟩ := x
    simp only at c0 c1 c2 c3 d0 d1 d2 d3
    have HX := hideIt hx
    clear hx
    clear hk
    unfold optI
    obtain ⟨V, hV⟩ : ∃ V, V = U.alloc (bPl ⟨x0, x1, x2, x3⟩) := ⟨_, rfl⟩
    have HV : Hid (V = U.alloc (bPl ⟨x0, x1, x2, x3⟩) ∧ Mid w b (.slice (some ⟨bl, off, none⟩) n ac) 2 nm 0 w1.heap.size (some ⟨gl, of2, none⟩) n vc ts V ∧ V.heap[U.heap.size]? = some (bPl ⟨x0, x1, x2, x3⟩)) := by
      refine ⟨hV, ?_, ?_⟩
      · rw [hV]; exact HU.out.2.1.nx (nx_alloc _ _)
      · rw [hV]; exact heap_alloc_at _ _ rfl
    clear hV
    go_upto_region 15 with fail
    rw [← HV.out.1]
    clear a0 a1 az s0 s1 s2 sz r0 r1 rz o0 o1 oz c0 c1 c2 c3 d0 d1 d2 d3 hz
    obtain ⟨s0, s1, s2, sz⟩ := blk3s HV.out.2.1.h1
    obtain ⟨o0, o1, oz⟩ := blk2 HV.out.2.1.h3
    obtain ⟨gl', of2', hvo, hgl2, d0, d1, d2, d3⟩ := pool_at (own_row HV.out.2.1.own) HX.out
    obtain ⟨rfl, rfl⟩ : gl = gl' ∧ of2 = of2' := by simpa using hvo
    have hz : ∀ a, V.frozen? ⟨gl, a, none⟩ = false := by
      have h := HV.out.2.1.own
      rw [HO.out.1] at h
      exact fun a => h.frozenAt a
    obtain ⟨t0, hi, hz0, hz1, hz2⟩ := info_parts info_P
    have hnc : n ≤ vc := row_len (own_row HV.out.2.1.own)
    have hkn' : k < n := by omega
    go_upto_region 20 with fail
    obtain ⟨k1, hk1⟩ : ∃ k1 : Nat, k1 = k + 1 := ⟨_, rfl⟩
    have hw : IntKind.i64.wrap ((k : Int) + 1) = (k1 : Int) := by rw [IntWalk.i64_in _ (by omega)]; omega
    have hk0 : (0 : Int) ≤ (k : Int) := by omega
    have hkv : (k : Int) ≤ (vc : Int) := by omega
    have hk1n : (k1 : Int) ≤ (n : Int) := by omega
    have hk1v : k1 ≤ vc := by omega
    have HK1 := hideIt hk1
    have HRD := hideIt (row_dropP (own_row HV.out.2.1.own) HR.out.2.1 (j := k1) (by omega))
    have hsp : ∀ j, j < (flatP (ts.drop k1)).length → (V.cell? ⟨gl, of2 + k * 4 + j, none⟩).isSome = true ∧ V.frozen? ⟨gl, of2 + k * 4 + j, none⟩ = false := by
      intro j hj
      refine ⟨?_, hz _⟩
      rw [flatP_len, List.length_drop, HR.out.2.1] at hj
      have hjj : k * 4 + j < (flatP ts).length := by rw [flatP_len, HR.out.2.1]; omega
      obtain ⟨b', off', e', _, g⟩ := (own_row HV.out.2.1.own).at (List.getElem?_eq_getElem hjj)
      obtain ⟨rfl, rfl⟩ : gl = b' ∧ of2 = off' := by simpa using e'
      rw [Nat.add_assoc, g]; rfl
    have HSP := hideIt hsp
    obtain ⟨ad, hif⟩ : ∃ ad, (if vc = k1 then some (⟨gl, of2, none⟩ : Addr) else some ⟨gl, of2 + k1 * 4, none⟩) = some ad := by
      by_cases h : vc = k1
      · exact ⟨_, if_pos h⟩
      · exact ⟨_, if_neg h⟩
    rw [hif] at HRD
    have HCE : Hid (∀ (j : Nat) (u : Value), (flatP (ts.drop k1))[j]? = some u → V.cell? (ad.add j) = some u) := by
      intro j u hj
      obtain ⟨b', off', e', _, g⟩ := HRD.out.at hj
      obtain rfl : ad = ⟨b', off', none⟩ := by simpa using e'
      rw [add_plain']
      exact g
    have HRO : Hid (k + (n - k1) ≤ vc ∧ (flatP (ts.drop k1)).length = (n - k1) * 4 ∧ k + (n - k1) = (ts.take k ++ ts.drop (k + 1)).length) := by
      refine ⟨by omega, by rw [flatP_len, List.length_drop, HR.out.2.1], ?_⟩
      rw [List.length_append, List.length_take, List.length_drop, HR.out.2.1]
      omega
    obtain ⟨news, hnews⟩ : ∃ news, flatP (ts.drop k1) = news := ⟨_, rfl⟩
    rw [hnews] at HCE HSP HRO
    obtain ⟨Y, hY⟩ : ∃ Y, Y = V.drew.setCells gl (of2 + k * 4) news := ⟨_, rfl⟩
    have hgl1 := HO.out.2
    have hYo : ∀ g, g < V.heap.size → g ≠ gl → Y.heap[g]? = V.heap[g]? := fun g hg hne => by rw [hY]; exact World.heap_setCells_other V.drew gl _ _ hg hne
    have hVz : U.heap.size < V.heap.size := (Array.getElem?_eq_some_iff.1 HV.out.2.2).1
    have HY : Hid (Y = V.drew.setCells gl (of2 + k * 4) news ∧ Y.heap[w.heap.size + 1]? = some (bStp 2 nm 0) ∧ Y.heap[w.heap.size + 1 + 1]? = some (bTab 0 (.slice none 0 0)) ∧ Y.heap[w1.heap.size]? = some (bTab b (.slice (some ⟨gl, of2, none⟩) n vc)) ∧ RowAt Y (.slice (some ⟨gl, of2, none⟩) (k + (n - k1)) vc) (k + (n - k1)) (flatP (ts.take k ++ ts.drop (k + 1))) ∧ Below w.heap.size w Y) := by
      have hgu := HU.out.2.2
      refine ⟨hY, (hYo _ (by omega) (by omega)).trans HV.out.2.1.h1, (hYo _ (by omega) (by omega)).trans HV.out.2.1.h2, (hYo _ (by omega) (by omega)).trans HV.out.2.1.h3, ⟨_, _, rfl, HRO.out.1, .inr ⟨gl, of2, rfl, ?_, ?_⟩⟩, ?_⟩
      · rw [hY]; exact Nat.lt_of_lt_of_le hgl2 (Go.Lib.below_setCells_w (Nat.zero_le _) news _ V.drew).size
      · intro j x hj
        rw [flatP_append] at hj
        have htl : (flatP (ts.take k)).length = k * 4 := by rw [flatP_len, List.length_take, HR.out.2.1]; omega
        rw [hY]
        by_cases hjk : j < k * 4
        · rw [World.cell?_setCells_out gl news _ _ _ (fun _ _ => .inl (by show of2 + j < of2 + k * 4; omega))]
          rw [List.getElem?_append_left (by omega)] at hj
          show V.cell? _ = _
          have h2 : (flatP ts)[j]? = some x := by
            have e : flatP ts = flatP (ts.take k) ++ flatP (ts.drop k) := by rw [← flatP_append, List.take_append_drop]
            rw [e, List.getElem?_append_left (by omega)]; exact hj
          obtain ⟨b', off', e', _, g⟩ := (own_row HV.out.2.1.own).at h2
          obtain ⟨rfl, rfl⟩ : gl = b' ∧ of2 = off' := by simpa using e'
          exact g
        · rw [List.getElem?_append_right (by omega), htl] at hj
          have h3 : news[j - k * 4]? = some x := by rw [← hnews, HK1.out]; exact hj
          obtain ⟨h4, h5⟩ := List.getElem?_eq_some_iff.1 h3
          have := World.cell?_setCells_in gl news (of2 + k * 4) V.drew (fun i hi => (HSP.out i hi).1) (j - k * 4) h4
          rw [show of2 + k * 4 + (j - k * 4) = of2 + j by omega, h5] at this
          exact this
      · rw [hY]
        exact HV.out.2.1.bel.drew.trans (Go.Lib.below_setCells_w (by omega) news _ V.drew)
    obtain ⟨y0, y1, yz⟩ := blk2 HY.out.2.2.2.1
    have y1' : (V.drew.setCells gl (of2 + k * 4) news).cell? ⟨w1.heap.size, 1, none⟩ = some (.slice (some ⟨gl, of2, none⟩) n vc) := by rw [← hY]; exact y1
    have yz' : (V.drew.setCells gl (of2 + k * 4) news).frozen? ⟨w1.heap.size, 1, none⟩ = false := by rw [← hY]; exact yz 1
    have HYY := hideIt hY
    have HNW := hideIt hnews
    clear hY hYo hnews y0 y1 yz hk1 hsp
    go_region_law ((refine step_append_room (by rfl) (.tmp 103) (.tmp 108) 22 (by rfl) 37 t0 4 Try.underlying22 hi hz1 gl of2 k vc (by rfl) ad (n - k1) (vc - k1) news (by rfl) HRO.out.2.1 HCE.out (by rw [← HNW.out]; exact flatP_one _) HRO.out.1 HSP.out ?_))
    all_goals
      rw [← HYY.out]
      obtain ⟨q, hq⟩ : ∃ q, k + (n - k1) = q := ⟨_, rfl⟩
      rw [hq] at HY HRO ⊢
      obtain ⟨X, hX⟩ : ∃ X, X = Y.setCell ⟨w1.heap.size, 1, none⟩ (.slice (some ⟨gl, of2, none⟩) q vc) := ⟨_, rfl⟩
      have HF : Hid (X = Y.setCell ⟨w1.heap.size, 1, none⟩ (.slice (some ⟨gl, of2, none⟩) q vc) ∧ FinR w 2 nm 0 w1.heap.size b (some ⟨gl, of2, none⟩) q vc (ts.take k ++ ts.drop (k + 1)) X) := by
        have hs : ∀ g, g < w1.heap.size → X.heap[g]? = Y.heap[g]? := fun g hg => by rw [hX]; exact Below.heap_setCell _ _ _ _ (by show g ≠ w1.heap.size; omega)
        refine ⟨hX, (hs _ (by omega)).trans HY.out.2.1, (hs _ (by omega)).trans HY.out.2.2.1, ?_, ?_, fun h => by simp at h, ?_, ?_⟩
        · rw [hX]; exact set_heap _ _ _ _ _ _ HY.out.2.2.2.1
        · rw [hX]
          refine row_set HY.out.2.2.2.2.1 (fun g o e => ?_)
          obtain ⟨rfl, rfl⟩ : gl = g ∧ of2 = o := by simpa using e
          omega
        · intro g o e
          obtain ⟨rfl, rfl⟩ : gl = g ∧ of2 = o := by simpa using e
          omega
        · rw [hX]; exact HY.out.2.2.2.2.2.setCell (by show w.heap.size ≤ w1.heap.size; omega) _
      clear hX hq
      go_upto_region 21 with fail
      rw [← HF.out.1]
      clear s0 s1 s2 sz o0 o1 oz d0 d1 d2 d3 hz y1' yz'
      obtain ⟨s0, s1, s2, sz⟩ := blk3s HF.out.2.h1
      obtain ⟨r0, r1, rz⟩ := blk2 HF.out.2.h2
      obtain ⟨o0, o1, oz⟩ := blk2 HF.out.2.h3
      go_region
      go_wp2_with fail
      refine bodyPost_ret (v := .tuple #[.agg #[.int .i64 b, .slice (some ⟨gl, of2, none⟩) q vc], .bool true]) (by simp [results, Try.results6, go_sem, r0, r1]) rfl ?_
      exact (HF.out.2.gave HRO.out.2.2.symm).drew
end Df
end Go.Proofs.Ytphkgbbfkibfbaa
