
import Derived.Test.YtbdekfghddekkaaCpH
namespace Go.Proofs.Ytbdekfghddekkaa
open Go.RowKit
namespace Co

set_option maxRecDepth 20000 in
set_option maxHeartbeats 4000000 in
theorem table_nil (go B : Nat) (b : Int) (po : Option Addr) (pc q : Nat) (vs : List Value) (w : World) (hgo : w.heap[go]? = some (bOwn (.slice po q pc))) (hpv : w.ownsRow B 29 1 (.slice po q pc) q vs) (hq : q ≤ 5) (hB : B ≤ w.heap.size) (hgoB : go < B) :
    Calls Try.prog 5 #[.pointer (some ⟨go, 0, none⟩), .agg #[.int .i64 b, .slice none 0 0]] w fun e w' => (∃ x, e = .returned x) ∧ ∃ po' pc', w'.heap[go]? = some (bOwn (.slice po' (q + 1) pc')) ∧ w'.ownsRow B 29 1 (.slice po' (q + 1) pc') (q + 1) (vs ++ [.slice none 0 0]) ∧ w.heap.size ≤ w'.heap.size ∧ (∀ k, k < w.heap.size → k ≠ go → (Value.slice po q pc).ownBlock ≠ some k → w'.heap[k]? = w.heap[k]?) ∧ SameO w w' := by
  obtain ⟨t0, hi, hz0, hz1, hz2⟩ := info_parts info_pools
  have hgolt : go < w.heap.size := by omega
  obtain ⟨a0, a1, a2, a3, az⟩ := blk4o hgo
  have ka := fun o => (blk4o (w := w.alloc o) ((heap_alloc_lt' _ _ hgolt).trans hgo)).1
  have kz := fun o => (blk4o (w := w.alloc o) ((heap_alloc_lt' _ _ hgolt).trans hgo)).2.2.2.2
  have HH : Hid (w.heap[go]? = some (bOwn (.slice po q pc)) ∧ ∀ j, (Value.slice po q pc).ownBlock = some j → B ≤ j) := ⟨hgo, fun j h => (hpv.lt j h).1⟩
  clear hgo
  go_enter Try.func5, Try.ntmps5
  go_wp2_with (at_builtin; refine wpList_append_own_at _ rfl (.tmp 16) (.tmp 18) 23 rfl B 29 t0 _ 1 24 Try.underlying23 hi hz0 hz1 hz2 rfl (by decide) _ _ _ rfl ((hpv.alloc _).alloc _) ⟨w.heap.size + 1, 0, none⟩ 1 1 [.slice none 0 0] rfl rfl (cells_new_at _ [.slice none 0 0] 29 (by simp)) (by intro u hu; simp at hu; subst hu; rfl) (by unfold maxLen; omega) (by omega) (by simp; omega) ?next)
  case next =>
    intro v' w6 hown6 hgrow6 _ hat6
    obtain ⟨po6, pc6, hv6, _⟩ := own_row hown6
    subst hv6
    have hlow : ∀ j, j < w.heap.size → (Value.slice po q pc).ownBlock ≠ some j → w6.heap[j]? = w.heap[j]? := fun j hj hne' => (hgrow6.block j (by simp; omega) (fun e => hne' e.symm)).trans ((heap_alloc_lt' _ _ (by simp; omega)).trans (heap_alloc_lt' _ _ hj))
    have hgo6 : w6.heap[go]? = some (bOwn (.slice po q pc)) := (hlow go hgolt (fun e => by have := HH.out.2 go e; omega)).trans HH.out.1
    obtain ⟨W7, hW7⟩ : ∃ W7, W7 = w6.setCell ⟨go, 0, none⟩ (.slice po6 (q + 1) pc6) := ⟨_, rfl⟩
    have hoth : ∀ j, j ≠ go → W7.heap[j]? = w6.heap[j]? := fun j hj => by rw [hW7]; exact Below.heap_setCell _ _ _ _ hj
    have HW : Hid (W7 = w6.setCell ⟨go, 0, none⟩ (.slice po6 (q + 1) pc6) ∧ W7.heap[go]? = some (bOwn (.slice po6 (q + 1) pc6)) ∧ W7.ownsRow B 29 1 (.slice po6 (q + 1) pc6) (q + 1) (vs ++ [.slice none 0 0]) ∧ w.heap.size ≤ W7.heap.size ∧ (∀ k, k < w.heap.size → k ≠ go → (Value.slice po q pc).ownBlock ≠ some k → W7.heap[k]? = w.heap[k]?) ∧ SameO w W7) := by
      refine ⟨hW7, by rw [hW7]; exact set_heap _ _ _ _ _ _ hgo6, own_heap hown6 (fun j hj => hoth j (by have := (hown6.lt j hj).1; omega)), ?_, fun k h1 h2 h4 => (hoth k h2).trans (hlow k h1 h4), by rw [hW7]; exact SameO.trans ⟨hgrow6.os, hgrow6.tape, hgrow6.output⟩ (sameO_set _ _ _)⟩
      have := hgrow6.size
      rw [hW7]
      simp at this ⊢
      omega
    obtain ⟨b0, b1, b2, b3, bz⟩ := blk4o hgo6
    clear hown6 hgrow6 hat6 hlow hgo6 hW7 hoth
    go_wp2_with fail
    rw [← HW.out.1]
    clear b0 b1 b2 b3 bz a0 a1 a2 a3 az ka kz
    go_loopw [5] (fun i wr => i = .int .i64 0 ∧ Hid (wr = W7)) (fun i _ => 0)
    case atStart => exact ⟨rfl, rfl⟩
    case round =>
      obtain ⟨rfl, HC⟩ := hrel
      go_wp2_with fail
      rw [HC.out]
      refine bodyPost_end (v := .tuple #[]) (by simp [results, Try.results5, go_sem]) rfl ?_
      exact ⟨⟨_, rfl⟩, po6, pc6, HW.out.2.1, HW.out.2.2.1, HW.out.2.2.2.1, HW.out.2.2.2.2⟩
end Co
end Go.Proofs.Ytbdekfghddekkaa
