
import Derived.Test.YtbdekfghddekkaaCpE
namespace Go.Proofs.Ytbdekfghddekkaa
open Go.RowKit
namespace Co

set_option maxRecDepth 20000 in
set_option maxHeartbeats 1000000 in
theorem same_true (b : Int) (ao1 ao2 : Option Addr) (n c1 c2 : Nat) (ps : List Pl) (w : World) (hr1 : RowAt w (.slice ao1 n c1) n (flatP ps)) (hr2 : RowAt w (.slice ao2 n c2) n (flatP ps)) (hn : ps.length = n) (hlen : n ≤ maxLen) :
    Calls Try.prog 9 #[.agg #[.int .i64 b, .slice ao1 n c1], .agg #[.int .i64 b, .slice ao2 n c2]] w fun e w' => e = .returned (.bool true) ∧ Below w.heap.size w w' := by
  unfold maxLen at hlen
  have HN : Hid (ps.length = n) := hn
  clear hn
  have HP : Hid (RowAt ((w.alloc (bTab b (.slice ao1 n c1))).alloc (bTab b (.slice ao2 n c2))) (.slice ao1 n c1) n (flatP ps) ∧ RowAt ((w.alloc (bTab b (.slice ao1 n c1))).alloc (bTab b (.slice ao2 n c2))) (.slice ao2 n c2) n (flatP ps)) :=
    ⟨(hr1.nx (nx_alloc _ _)).nx (nx_alloc _ _), (hr2.nx (nx_alloc _ _)).nx (nx_alloc _ _)⟩
  clear hr1 hr2
  go_enter Try.func9, Try.ntmps9
  go_wp2_with fail
  go_loopw [5] (fun i wr => ∃ (k : Nat), k ≤ n ∧ i = .int .i64 k ∧
      Below ((w.alloc (bTab b (.slice ao1 n c1))).alloc (bTab b (.slice ao2 n c2))).heap.size ((w.alloc (bTab b (.slice ao1 n c1))).alloc (bTab b (.slice ao2 n c2))) wr) (fun i _ => n - (intOf i).toNat)
  case atStart => exact ⟨0, Nat.zero_le _, rfl, Below.refl _ _⟩
  case round =>
    obtain ⟨k, hk, rfl, hbel⟩ := hrel
    have hcell : wr.cell? ⟨w.heap.size, 1, none⟩ = some (.slice ao1 n c1) := by
      refine (hbel.cell (p := ⟨w.heap.size, 1, none⟩) (by simp; omega)).trans ?_
      simp
    have hcell2 : wr.cell? ⟨w.heap.size + 1, 1, none⟩ = some (.slice ao2 n c2) := by
      refine (hbel.cell (p := ⟨w.heap.size + 1, 1, none⟩) (by simp)).trans ?_
      simp
    have HB : Hid (Below w.heap.size w wr) := nx_trans (nx_trans (nx_alloc _ _) (nx_alloc _ _)) hbel
    by_cases hlt : k < n
    · obtain ⟨⟨nm, sz, wt, fr⟩, hp⟩ : ∃ p, ps[k]? = some p := ⟨_, List.getElem?_eq_getElem (by rw [HN.out]; exact hlt)⟩
      obtain ⟨bl, off, hao, hbl, c0, c1', c2', c3⟩ := pool_at (HP.out.1.nx hbel) hp
      obtain ⟨bl', off', hao', hbl', d0, d1, d2, d3⟩ := pool_at (HP.out.2.nx hbel) hp
      subst hao hao'
      clear hp hbl hbl'
      simp only at c0 c1' c2' c3 d0 d1 d2 d3
      have hlti : (k : Int) < (n : Int) := by omega
      go_wp2_with fail
      go_quiet (fail)
      go_wp2_with fail
      go_roundw
      case rel => exact ⟨k + 1, by omega, by go_num, below_drewN hbel _⟩
      case measure => simp [intOf]; omega
    · go_wp2_with fail
      go_ret
      exact ⟨rfl, HB.out⟩
theorem own_le {w : World} {B : Nat} {e : TypeId} {size : Nat} {v : Value} {n : Nat} {xs : List Value} (h : w.ownsRow B e size v n xs) : n ≤ maxLen := by
  rcases h.2 with ⟨_, rfl⟩ | ⟨g, cap, cur, _, _, _, hn, hm, _⟩
  · exact Nat.zero_le _
  · exact Nat.le_trans hn hm

set_option maxRecDepth 20000 in
set_option maxHeartbeats 4000000 in
theorem compiled_any (s : ByteArray) (w : World) (hs : s.size ≤ maxLen) :
    Calls Try.prog 4 #[.string s] w fun e w' => ∃ vo vc, e = .returned (.tuple #[.agg #[.int .i64 (ans s).tab.1, .slice vo (ans s).tab.2.length vc], .bool true]) ∧ w'.ownsRow w.heap.size 42 4 (.slice vo (ans s).tab.2.length vc) (ans s).tab.2.length (flatP (ans s).tab.2) ∧ Below w.heap.size w w' := by
  have HC := hideIt (pcompile_any s (w.alloc (bTab 0 (.slice none 0 0))) hs)
  have HRC := hideIt (fun w0 => rcompile_any s w0 hs)
  have H0 : Hid ((w.alloc (bTab 0 (.slice none 0 0))).heap[w.heap.size]? = some (bTab 0 (.slice none 0 0))) := heap_alloc_at' _ _ rfl
  obtain ⟨⟨⟨b, ps⟩, er, pl⟩, ha⟩ : ∃ a, ans s = a := ⟨_, rfl⟩
  rw [ha] at HC HRC ⊢
  simp only
  obtain ⟨m, hm⟩ : ∃ m, ps.length = m := ⟨_, rfl⟩
  rw [hm]
  have HM := hideIt hm
  clear ha
  unfold maxLen at hs
  go_enter Try.func4, Try.ntmps4
  go_wp2_with fail
  refine HC.out.mono ?_
  rintro e w1 ⟨vo, vc, rfl, hown, hb1⟩
  simp only at hown ⊢
  rw [hm] at hown ⊢
  obtain ⟨W2, hW2⟩ : ∃ W2, W2 = w1.alloc (bTab b (.slice vo m vc)) := ⟨_, rfl⟩
  have H2 : Hid (W2 = w1.alloc (bTab b (.slice vo m vc)) ∧ Below w1.heap.size w1 W2 ∧ W2.heap[w1.heap.size]? = some (bTab b (.slice vo m vc)) ∧ w1.heap.size < W2.heap.size) := ⟨hW2, by rw [hW2]; exact nx_alloc _ _, by rw [hW2]; exact heap_alloc_at' _ _ rfl, by rw [hW2]; simp⟩
  have HO1 : Hid (w1.ownsRow (w.heap.size + 1) 42 4 (.slice vo m vc) m (flatP ps) ∧ Below w.heap.size w w1 ∧ w1.heap[w.heap.size]? = some (bTab 0 (.slice none 0 0)) ∧ w.heap.size < w1.heap.size) := ⟨by simpa using hown, nx_trans (nx_alloc _ _) hb1, (hb1.block _ (by simp)).trans H0.out, sz_lt hb1⟩
  clear hown hb1 hW2
  go_wp2_with fail
  rw [← H2.out.1]
  refine (HRC.out W2).mono ?_
  rintro e w3 ⟨vo3, vc3, rfl, hown3, hb3⟩
  simp only at hown3 ⊢
  rw [hm] at hown3 ⊢
  obtain ⟨g, hg⟩ : ∃ g, w1.heap.size = g := ⟨_, rfl⟩
  have HO3 : Hid (w3.ownsRow W2.heap.size 42 4 (.slice vo3 m vc3) m (flatP ps) ∧ Below w.heap.size w w3 ∧ w3.heap[w.heap.size]? = some (bTab 0 (.slice none 0 0)) ∧ w3.heap[g]? = some (bTab b (.slice vo m vc)) ∧ w3.ownsRow (w.heap.size + 1) 42 4 (.slice vo m vc) m (flatP ps) ∧ w.heap.size < g ∧ g < w3.heap.size) := by
    have h12 := H2.out
    rw [hg] at h12
    have hlt := HO1.out.2.2.2
    rw [hg] at hlt
    refine ⟨hown3, nx_trans (nx_trans HO1.out.2.1 H2.out.2.1) hb3, ?_, (hb3.block _ h12.2.2.2).trans h12.2.2.1, own_below (own_below HO1.out.1 H2.out.2.1) hb3, hlt, Nat.lt_of_lt_of_le h12.2.2.2 hb3.size⟩
    exact (hb3.block _ (by omega)).trans ((H2.out.2.1.block _ HO1.out.2.2.2).trans HO1.out.2.2.1)
  rw [hg]
  obtain ⟨e0, e1, ez⟩ := blk2 HO3.out.2.2.2.1
  obtain ⟨W4, hW4⟩ : ∃ W4, W4 = w3.alloc (bTab b (.slice vo3 m vc3)) := ⟨_, rfl⟩
  have H4 : Hid (W4 = w3.alloc (bTab b (.slice vo3 m vc3)) ∧ Below w3.heap.size w3 W4) := ⟨hW4, by rw [hW4]; exact nx_alloc _ _⟩
  have k0 := fun o => (blk2 (w := w3.alloc o) ((heap_alloc_lt' _ _ HO3.out.2.2.2.2.2.2).trans HO3.out.2.2.2.1)).1
  have k1 := fun o => (blk2 (w := w3.alloc o) ((heap_alloc_lt' _ _ HO3.out.2.2.2.2.2.2).trans HO3.out.2.2.2.1)).2.1
  have HSM := hideIt (same_true b vo vo3 m vc vc3 ps W4 ((own_row HO3.out.2.2.2.2.1).nx H4.out.2) ((own_row hown3).nx H4.out.2) hm (own_le hown3))
  clear hown3 hb3 hW4 hm hg
  go_wp2_with fail
  rw [← H4.out.1]
  refine HSM.out.mono ?_
  rintro e w5 ⟨rfl, hb5⟩
  have hb35 := nx_trans H4.out.2 hb5
  have HO5 : Hid (w5.ownsRow (w.heap.size + 1) 42 4 (.slice vo m vc) m (flatP ps) ∧ Below w.heap.size w w5) := ⟨own_below HO3.out.2.2.2.2.1 hb35, nx_trans HO3.out.2.1 hb35⟩
  obtain ⟨f0, f1, fz⟩ := blk2 ((hb35.block _ HO3.out.2.2.2.2.2.2).trans HO3.out.2.2.2.1)
  obtain ⟨r0, r1, rz⟩ := blk2 ((hb35.block _ (by have := HO3.out.2.2.2.2.2; omega)).trans HO3.out.2.2.1)
  clear hb5 hb35 e0 e1 ez k0 k1
  go_wp2_with fail
  refine bodyPost_ret (v := .tuple #[.agg #[.int .i64 b, .slice vo m vc], .bool true]) (by simp [results, Try.results4, go_sem, r0, r1]) rfl ⟨vo, vc, rfl, ?_, ?_⟩
  · exact own_mono (ownsRow_setCell_below (ownsRow_setCell_below HO5.out.1 (by show w.heap.size < _; omega) _) (by show w.heap.size < _; omega) _) (by omega)
  · exact (HO5.out.2.setCell (Nat.le_refl _) _).setCell (Nat.le_refl _) _
end Co
end Go.Proofs.Ytbdekfghddekkaa
