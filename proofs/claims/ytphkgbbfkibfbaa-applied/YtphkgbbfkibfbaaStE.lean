
import Derived.Test.YtphkgbbfkibfbaaStB
import Derived.Deep.AppendLies
import Derived.Laws.OwnMore
import Derived.Lib.EndianMore
import Derived.Deep.Upon
import Derived.Laws.IdiomCopy
import Derived.Deep.RegionHeld3
namespace Go.Proofs.Ytphkgbbfkibfbaa
open Go.RowKit
namespace Df
open Co Lw

theorem add_fin {w w6 w7 : World} {go : Nat} {b : Int} {nm : ByteArray} {vo7 : Option Addr} {vc7 ln : Nat} {v : Value} {ts : List Pl} (hgo : w.heap.size + 3 ≤ go) (g1 : w6.heap[w.heap.size + 1]? = some (bStp 4 nm 0)) (g2 : w6.heap[w.heap.size + 1 + 1]? = some (bTab 0 (.slice none 0 0))) (g3 : w6.heap[go]? = some (bTab b v))
    (ho : w7.ownsRow w6.heap.size 37 4 (.slice vo7 ln vc7) ln (flatP ts)) (hb : Below w6.heap.size w6 w7) (hw : Below w.heap.size w w6) :
    FinR w 4 nm 0 go b vo7 ln vc7 ts ((w7.setCell ⟨go, 0, none⟩ (.int .i64 b)).setCell ⟨go, 1, none⟩ (.slice vo7 ln vc7)) := by
  have hg6 : go < w6.heap.size := (Array.getElem?_eq_some_iff.1 g3).1
  have hs : ∀ g, g ≠ go → ((w7.setCell ⟨go, 0, none⟩ (.int .i64 b)).setCell ⟨go, 1, none⟩ (.slice vo7 ln vc7)).heap[g]? = w7.heap[g]? := fun g hg => (Below.heap_setCell _ _ _ _ hg).trans (Below.heap_setCell _ _ _ _ hg)
  refine ⟨(hs _ (by omega)).trans (blk_nx g1 hb), (hs _ (by omega)).trans (blk_nx g2 hb), ?_, ?_, own_nilc ho, ?_, ?_⟩
  · exact set_heap _ _ _ _ _ _ (set_heap _ _ _ _ _ _ (blk_nx g3 hb))
  · exact own_row (ownsRow_setCell_below (ownsRow_setCell_below ho hg6 _) hg6 _)
  · intro g off e
    have := (ho.lt g (by rw [e]; rfl)).1
    omega
  · exact ((nx_trans hw hb).setCell (by show w.heap.size ≤ go; omega) _).setCell (by show w.heap.size ≤ go; omega) _

set_option maxRecDepth 20000 in
set_option maxHeartbeats 4000000 in
theorem kStep4 (b : Int) (ao : Option Addr) (n ac : Nat) (ts : List Pl) (nm : ByteArray) (w : World) (hr : RowAt w (.slice ao n ac) n (flatP ts)) (hn : ts.length = n) (hn2 : n ≤ 6) (hnil : ao = none → ac = 0) (hk : ts.findIdx? (isNameP nm) = none) (hb1 : 1 ≤ b) (hb2 : b ≤ 99) (hgood : GoodT (ts ++ [⟨nm, 0, 0, 0⟩])) :
    Calls Try.prog 6 #[.agg #[.int .i64 b, .slice ao n ac], sA 4 nm 0] w fun e w' => GaveT w w' (b) (insAll (ts ++ [⟨nm, 0, 0, 0⟩])) e := by
  obtain ⟨W, hW⟩ : ∃ W, W = ((w.alloc (bTab b (.slice ao n ac))).alloc (bStp 4 nm 0)).alloc (bTab 0 (.slice none 0 0)) := ⟨_, rfl⟩
  have hbW : Below w.heap.size w W := by rw [hW]; exact nx_trans (nx_trans (nx_alloc _ _) (nx_alloc _ _)) (nx_alloc _ _)
  have HW : Hid (W = ((w.alloc (bTab b (.slice ao n ac))).alloc (bStp 4 nm 0)).alloc (bTab 0 (.slice none 0 0)) ∧ W.heap[w.heap.size]? = some (bTab b (.slice ao n ac)) ∧ W.heap[w.heap.size + 1]? = some (bStp 4 nm 0) ∧ W.heap[w.heap.size + 2]? = some (bTab 0 (.slice none 0 0)) ∧ W.heap.size = w.heap.size + 3 ∧ Below w.heap.size w W) := by
    refine ⟨hW, ?_, ?_, ?_, ?_, hbW⟩
    · rw [hW]; exact (heap_alloc_lt _ _ (by simp; omega)).trans ((heap_alloc_lt _ _ (by simp)).trans (heap_alloc_at _ _ rfl))
    · rw [hW]; exact (heap_alloc_lt _ _ (by simp)).trans (heap_alloc_at _ _ (by simp))
    · rw [hW]; exact heap_alloc_at _ _ (by simp)
    · rw [hW]; simp
  have HF := hideIt (kAt b ao n ac nm ts W (hr.nx hbW) hn (by unfold maxLen; omega))
  have HR : Hid (RowAt w (.slice ao n ac) n (flatP ts) ∧ ts.length = n ∧ (ao = none → ac = 0)) := ⟨hr, hn, hnil⟩
  clear hr hn hW hbW hnil
  go_enter Try.func6, Try.ntmps6
  go_wp2_with fail
  rw [← HW.out.1]
  refine HF.out.mono ?_; rintro e w1 ⟨rfl, hb1⟩
  obtain ⟨a0, a1, az⟩ := blk2 (blk_nx HW.out.2.1 hb1)
  have hz1 : w.heap.size + 3 ≤ w1.heap.size := by have := hb1.size; rw [HW.out.2.2.2.2.1] at this; exact this
  have HM1 : Hid (Below W.heap.size W w1 ∧ RowAt w1 (.slice ao n ac) n (flatP ts)) := ⟨hb1, HR.out.1.nx (nx_trans HW.out.2.2.2.2.2 hb1)⟩
  clear hb1 HF
  have q1 := fun o => (blk2 (blk_nx (blk_nx HW.out.2.1 HM1.out.1) (nx_alloc w1 o))).2.1
  go_wp2_with (at_builtin; refine appendG 37 22 4 40 _ info_P Try.underlying22 rfl (by decide) (by decide) rfl (.tmp 17) (.tmp 19) rfl (w1.heap.size + 1) _ 0 [] rfl (World.ownsRow_nil _ _ _ _) ao n ac (flatP ts) rfl (by rw [flatP_len, HR.out.2.1]) (HM1.out.2.nx (nx_alloc _ _)) (flatP_one ts) HR.out.2.2 (by omega) (by simp) ?next)
  case next =>
    intro v' w3 hown3 hb3
    obtain ⟨vo, vc, rfl, _⟩ := own_row hown3
    have hb3' : Below (w1.heap.size + 1) (w1.alloc (bTab b (.slice none 0 0))) w3 := hb3
    have h3o : w3.heap[w1.heap.size]? = some (bTab b (.slice none 0 0)) := (hb3'.block _ (by omega)).trans (heap_alloc_at _ _ rfl)
    obtain ⟨o0, o1, oz⟩ := blk2 h3o
    have hlow : ∀ g o, W.heap[g]? = some o → w3.heap[g]? = some o := fun g o h => (hb3'.block g (by have := (Array.getElem?_eq_some_iff.1 (blk_nx h HM1.out.1)).1; omega)).trans (blk_nx (blk_nx h HM1.out.1) (nx_alloc _ _))
    obtain ⟨U, hU⟩ : ∃ U, U = w3.setCell ⟨w1.heap.size, 1, none⟩ (.slice vo n vc) := ⟨_, rfl⟩
    have HU : Hid (U = w3.setCell ⟨w1.heap.size, 1, none⟩ (.slice vo n vc) ∧ Mid w b (.slice ao n ac) 4 nm 0 w1.heap.size vo n vc ts U ∧ w1.heap.size < U.heap.size) := by
      have hs : ∀ g, g < w1.heap.size → U.heap[g]? = w3.heap[g]? := fun g hg => by rw [hU]; exact Below.heap_setCell _ _ _ _ (by show g ≠ w1.heap.size; omega)
      have hzW := HW.out.2.2.2.2.1
      refine ⟨hU, ⟨(hs _ (by omega)).trans (hlow _ _ HW.out.2.1), (hs _ (by omega)).trans (hlow _ _ HW.out.2.2.1), (hs _ (by omega)).trans (hlow _ _ HW.out.2.2.2.1), ?_, ?_, ?_, hz1⟩, ?_⟩
      · rw [hU]; exact set_heap _ _ _ _ _ _ h3o
      · rw [hU]; exact ownsRow_setCell_below (by simpa using hown3) (by show w1.heap.size < _; omega) _
      · rw [hU]
        refine ((nx_trans HW.out.2.2.2.2.2 (nx_trans HM1.out.1 (nx_alloc _ _))).trans (hb3'.mono (by omega))).setCell ?_ _
        show w.heap.size ≤ w1.heap.size
        omega
      · rw [hU]
        have := (Array.getElem?_eq_some_iff.1 h3o).1
        simpa using this
    have HRU : Hid (RowAt U (.slice ao n ac) n (flatP ts)) := HR.out.1.nx HU.out.2.1.bel
    clear hown3 hb3 hb3' hU hlow h3o
    go_upto_region 4 with fail
    rw [← HU.out.1]
    clear o0 o1 oz a0 a1 az q1
    obtain ⟨a0, a1, az⟩ := blk2 HU.out.2.1.h0
    obtain ⟨s0, s1, s2, sz⟩ := blk3s HU.out.2.1.h1
    obtain ⟨r0, r1, rz⟩ := blk2 HU.out.2.1.h2
    obtain ⟨o0, o1, oz⟩ := blk2 HU.out.2.1.h3
    have hgo := HU.out.2.1.go
    obtain ⟨t0, hi, hz0, hz1, hz2⟩ := info_parts info_P
    obtain ⟨new, hnew⟩ : ∃ new : Pl, new = ⟨nm, 0, 0, 0⟩ := ⟨_, rfl⟩
    have HGX := hideIt hgood
    clear hgood
    unfold optI
    have hgu := HU.out.2.2
    have z1 : ∀ o, (U.alloc o).cell? ⟨w.heap.size, 0, none⟩ = some (.int .i64 b) := fun o => (blk2 (blk_nx HU.out.2.1.h0 (nx_alloc U o))).1
    have z2 : ∀ o, (U.alloc o).cell? ⟨w.heap.size + 1, 1, none⟩ = some (.string nm) := fun o => (blk3s (blk_nx HU.out.2.1.h1 (nx_alloc U o))).2.1
    have z3 : ∀ o, (U.alloc o).cell? ⟨w1.heap.size, 1, none⟩ = some (.slice vo n vc) := fun o => (blk2 (blk_nx HU.out.2.1.h3 (nx_alloc U o))).2.1
    have hfar : ∀ g, g ≤ w1.heap.size → (Value.slice vo n vc).ownBlock ≠ some g := fun g hg e => by have := (HU.out.2.1.own.lt g e).1; omega
    have HG6 : Hid (∀ (Z : World) (g6 cap6 : Nat) (w6 : World), Z.grownBy w6 (Value.slice vo n vc).ownBlock → Z.heap = (U.alloc (bPl ⟨nm, 0, 0, 0⟩)).heap → Below w.heap.size w Z → w6.ownsRow (w1.heap.size + 1) 37 4 (.slice (some ⟨g6, 0, none⟩) (n + 1) cap6) (n + 1) (flatP ts ++ [.string nm, .int .i64 0, .int .i64 0, .int .i64 0]) → (∀ g o, g ≤ w1.heap.size → U.heap[g]? = some o → w6.heap[g]? = some o) ∧ w6.ownsRow (w1.heap.size + 1) 37 4 (.slice (some ⟨g6, 0, none⟩) (n + 1) cap6) (n + 1) (flatP (ts ++ [⟨nm, 0, 0, 0⟩])) ∧ Below w.heap.size w w6) := by
      intro Z g6 cap6 w6 hg hZ hbZ ho
      refine ⟨fun g o hle h => (hg.block g (by rw [hZ]; simp; omega) (fun e => hfar g hle e.symm)).trans (by rw [hZ]; exact (heap_alloc_lt _ _ (by omega)).trans h), by rw [flatP_append]; exact ho, ?_⟩
      exact hbZ.grown hg hbZ.size (fun g hg' => by have := (HU.out.2.1.own.lt g hg').1; omega)
    have HLN : Hid ((ts ++ [(⟨nm, 0, 0, 0⟩ : Pl)]).length = n + 1) := by show _ = _; simp [HR.out.2.1]
    have HI : Hid (I64 b ∧ ∀ x ∈ ts ++ [(⟨nm, 0, 0, 0⟩ : Pl)], I64 x.sz ∧ I64 x.wt ∧ I64 x.fr) := by
      refine ⟨⟨by omega, by omega⟩, fun x hx => ?_⟩
      have h := HGX.out.1 x hx
      exact ⟨⟨by have := h.s0; omega, by have := h.s1; omega⟩, ⟨by have := h.w0; omega, by have := h.w1; omega⟩, ⟨by have := h.f0; omega, by have := h.f1; omega⟩⟩
    clear hfar hk
    go_upto_region 10 with fail
    go_region_law
      (first
      | (refine step_append_lies _ (by rfl) (.tmp 57) (.tmp 61) 22 (by rfl) (w1.heap.size + 1) 37 t0 _ 4 40 Try.underlying22 hi hz0 hz1 hz2 (by rfl) (by decide) _ n (flatP ts) (by rfl) (HU.out.2.1.own.alloc _) ⟨U.heap.size, 0, none⟩ 1 1 [.string nm, .int .i64 0, .int .i64 0, .int .i64 0] (by rfl) (by rfl) (World.news_of_block (cs := #[.string nm, .int .i64 0, .int .i64 0, .int .i64 0]) (t := 37) (fr := (0, 0)) (heap_alloc_at U _ rfl)) (by intro u hu; simp at hu; rcases hu with rfl | rfl | rfl | rfl <;> rfl) (by omega) (by unfold maxLen; omega) (by omega) (by simp; omega) (U.heap.size + 1) (by simp) ?_; intro g6 cap6 w6 hown6 hgrow6 hat6 hlt6; have H6 : Hid ((∀ g o, g ≤ w1.heap.size → U.heap[g]? = some o → w6.heap[g]? = some o) ∧ w6.ownsRow (w1.heap.size + 1) 37 4 (.slice (some ⟨g6, 0, none⟩) (n + 1) cap6) (n + 1) (flatP (ts ++ [⟨nm, 0, 0, 0⟩])) ∧ Below w.heap.size w w6) := HG6.out _ g6 cap6 w6 hgrow6 rfl (by first | exact (HU.out.2.1.bel.drew).alloc (by show w.heap.size ≤ U.heap.size; omega) _ | exact ((HU.out.2.1.bel).alloc (by omega) _).drew) hown6; clear hown6 hgrow6 hat6 hlt6; have q1 := (blk2 (H6.out.1 _ _ (by omega) HU.out.2.1.h0)).1; have q2 := (blk3s (H6.out.1 _ _ (by omega) HU.out.2.1.h1)).2.1; have q3 := (blk2 (H6.out.1 _ _ (Nat.le_refl _) HU.out.2.1.h3)).2.1)
      | (go_simp; go_at_call 4; refine (Bent_ex b (ts ++ [⟨nm, 0, 0, 0⟩]) (some ⟨g6, 0, none⟩) cap6 (n + 1) w6 (own_row H6.out.2.1) HLN.out (by unfold maxLen; omega) HI.out.1 HI.out.2).mono ?_; rintro e w7 ⟨r7, ps7, vo7, vc7, hok7, rfl, hown7, hb7, hex7⟩; obtain ⟨e7, f7⟩ := hex7 hb1 hb2 HGX.out; obtain rfl := e7.symm; obtain rfl := f7.symm; have H7 : Hid (w7.ownsRow w6.heap.size 37 4 (.slice vo7 (insAll (ts ++ [⟨nm, 0, 0, 0⟩])).length vc7) (insAll (ts ++ [⟨nm, 0, 0, 0⟩])).length (flatP (insAll (ts ++ [⟨nm, 0, 0, 0⟩]))) ∧ Below w6.heap.size w6 w7) := ⟨hown7, hb7⟩; clear hok7 hown7 hb7 hex7; have q1' := (blk2 (blk_nx (H6.out.1 _ _ (by omega) HU.out.2.1.h0) H7.out.2)).1; have q2' := (blk3s (blk_nx (H6.out.1 _ _ (by omega) HU.out.2.1.h1) H7.out.2)).2.1; have q3' := (blk2 (blk_nx (H6.out.1 _ _ (Nat.le_refl _) HU.out.2.1.h3) H7.out.2)).2.1; have qz' := (blk2 (blk_nx (H6.out.1 _ _ (Nat.le_refl _) HU.out.2.1.h3) H7.out.2)).2.2; have q4' := (blk2 (blk_nx (H6.out.1 _ _ (Nat.le_refl _) HU.out.2.1.h3) H7.out.2)).1; have kk1 : ((w7.setCell ⟨w1.heap.size, 0, none⟩ (.int .i64 b)).setCell ⟨w1.heap.size, 1, none⟩ (.slice vo7 (insAll (ts ++ [⟨nm, 0, 0, 0⟩])).length vc7)).cell? ⟨w.heap.size, 0, none⟩ = some (.int .i64 b) := ((World.cell?_of_block (Below.heap_setCell _ _ _ _ (by show w.heap.size ≠ w1.heap.size; omega))).trans (World.cell?_of_block (Below.heap_setCell _ _ _ _ (by show w.heap.size ≠ w1.heap.size; omega)))).trans q1'; have kk2 : ((w7.setCell ⟨w1.heap.size, 0, none⟩ (.int .i64 b)).setCell ⟨w1.heap.size, 1, none⟩ (.slice vo7 (insAll (ts ++ [⟨nm, 0, 0, 0⟩])).length vc7)).cell? ⟨w.heap.size + 1, 1, none⟩ = some (.string nm) := ((World.cell?_of_block (Below.heap_setCell _ _ _ _ (by show w.heap.size + 1 ≠ w1.heap.size; omega))).trans (World.cell?_of_block (Below.heap_setCell _ _ _ _ (by show w.heap.size + 1 ≠ w1.heap.size; omega)))).trans q2'; dsimp only))
    all_goals
      have HF0 := hideIt (add_fin hgo (H6.out.1 _ _ (by omega) HU.out.2.1.h1) (H6.out.1 _ _ (by omega) HU.out.2.1.h2) (H6.out.1 _ _ (Nat.le_refl _) HU.out.2.1.h3) H7.out.1 H7.out.2 H6.out.2.2)
      obtain ⟨ln, hln⟩ : ∃ ln, (insAll (ts ++ [(⟨nm, 0, 0, 0⟩ : Pl)])).length = ln := ⟨_, rfl⟩
      rw [hln] at HF0 ⊢
      have HL := hideIt hln
      obtain ⟨X, hX⟩ : ∃ X, (w7.setCell ⟨w1.heap.size, 0, none⟩ (.int .i64 b)).setCell ⟨w1.heap.size, 1, none⟩ (.slice vo7 ln vc7) = X := ⟨_, rfl⟩
      rw [hX] at HF0
      have HX := hideIt hX
      clear hX hln q1' q2' q3' qz' q4' kk1 kk2 q1 q2 q3 z1 z2 z3 a0 a1 az s0 s1 s2 sz r0 r1 rz o0 o1 oz
      go_upto_region 11 with fail
      rw [HX.out]
      obtain ⟨s0, s1, s2, sz⟩ := blk3s HF0.out.h1
      obtain ⟨r0, r1, rz⟩ := blk2 HF0.out.h2
      obtain ⟨o0, o1, oz⟩ := blk2 HF0.out.h3
      go_region
      go_wp2_with fail
      refine bodyPost_ret (v := .tuple #[.agg #[.int .i64 b, .slice vo7 ln vc7], .bool true]) (by simp [results, Try.results6, go_sem, r0, r1]) rfl ?_
      exact (HF0.out.gave HL.out).drew
end Df
end Go.Proofs.Ytphkgbbfkibfbaa
