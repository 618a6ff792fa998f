
import Derived.Test.YtbdekfghddekkaaCpG
namespace Go.Proofs.Ytbdekfghddekkaa
open Go.RowKit
namespace Co

theorem blk4o {w : World} {g : Nat} {v : Value} (h : w.heap[g]? = some (bOwn v)) : w.cell? ⟨g, 0, none⟩ = some v ∧ w.cell? ⟨g, 1, none⟩ = some (.slice none 0 0) ∧ w.cell? ⟨g, 2, none⟩ = some (.slice none 0 0) ∧ w.cell? ⟨g, 3, none⟩ = some (.slice none 0 0) ∧ ∀ a, w.frozen? ⟨g, a, none⟩ = false := by
  refine ⟨?_, ?_, ?_, ?_, fun a => ?_⟩ <;> simp [World.cell?, World.frozen?, h]

theorem own_heap {w w' : World} {B : Nat} {e : TypeId} {size : Nat} {v : Value} {n : Nat} {xs : List Value} (h : w.ownsRow B e size v n xs) (hh : ∀ j, v.ownBlock = some j → w'.heap[j]? = w.heap[j]?) : w'.ownsRow B e size v n xs := by
  obtain ⟨hl, h⟩ := h
  refine ⟨hl, ?_⟩
  rcases h with h | ⟨g, cap, cur, h1, h2, hg, h4⟩
  · exact .inl h
  · exact .inr ⟨g, cap, cur, h1, h2, (hh g (by rw [h1]; rfl)).trans hg, h4⟩

/-- all but memory is as it was -/
def SameO (w w' : World) : Prop := w'.os = w.os ∧ w'.tape = w.tape ∧ w'.output = w.output
theorem SameO.trans {a b c : World} (h : SameO a b) (k : SameO b c) : SameO a c := ⟨k.1.trans h.1, k.2.1.trans h.2.1, k.2.2.trans h.2.2⟩
theorem sameO_set (w : World) (a : Addr) (v : Value) : SameO w (w.setCell a v) := by
  have h := (Below.refl 0 w).setCell (Nat.zero_le a.block) v
  exact ⟨h.os, h.tape, h.output⟩

set_option maxRecDepth 20000 in
set_option maxHeartbeats 4000000 in
theorem table_some (go g B : Nat) (b : Int) (po : Option Addr) (pc q : Nat) (vs : List Value) (n cap : Nat) (cur : Array Value) (w : World) (hgo : w.heap[go]? = some (bOwn (.slice po q pc))) (hpv : w.ownsRow B 29 1 (.slice po q pc) q vs) (hq : q ≤ 5) (hB : B ≤ w.heap.size) (hgoB : go < B)
    (hg : w.heap[g]? = some (.cells cur 42 (0, 0))) (hc : cur.size = cap * 4) (hcap : cap ≤ maxLen) (hn : n ≤ cap) :
    Calls Try.prog 5 #[.pointer (some ⟨go, 0, none⟩), .agg #[.int .i64 b, .slice (some ⟨g, 0, none⟩) n cap]] w fun e w' => (∃ x, e = .returned x) ∧ ∃ po' pc', w'.heap[go]? = some (bOwn (.slice po' (q + 1) pc')) ∧ w'.ownsRow B 29 1 (.slice po' (q + 1) pc') (q + 1) (vs ++ [.slice (some ⟨g, 0, none⟩) cap cap]) ∧ Full w' (.slice (some ⟨g, 0, none⟩) cap cap) (q + 1 : Nat) ∧ w.heap.size ≤ w'.heap.size ∧ (∀ k, k < w.heap.size → k ≠ go → k ≠ g → (Value.slice po q pc).ownBlock ≠ some k → w'.heap[k]? = w.heap[k]?) ∧ SameO w w' := by
  obtain ⟨t0, hi, hz0, hz1, hz2⟩ := info_parts info_pools
  unfold maxLen at hcap
  have hglt : g < w.heap.size := (Array.getElem?_eq_some_iff.1 hg).1
  have hgolt : go < w.heap.size := by omega
  have hne : go ≠ g := by
    intro e
    rw [e, hg] at hgo
    simp at hgo
  obtain ⟨a0, a1, a2, a3, az⟩ := blk4o hgo
  have ka := fun o => (blk4o (w := w.alloc o) ((heap_alloc_lt' _ _ hgolt).trans hgo)).1
  have kz := fun o => (blk4o (w := w.alloc o) ((heap_alloc_lt' _ _ hgolt).trans hgo)).2.2.2.2
  have hownB : ∀ j, (Value.slice po q pc).ownBlock = some j → B ≤ j := fun j h => (hpv.lt j h).1
  have hpg : (Value.slice po q pc).ownBlock ≠ some g := by
    intro e
    obtain ⟨cur', h'⟩ := own_typed hpv g e
    rw [hg] at h'
    simp at h'
  have HH : Hid (w.heap[go]? = some (bOwn (.slice po q pc)) ∧ w.heap[g]? = some (.cells cur 42 (0, 0)) ∧ cur.size = cap * 4 ∧ (Value.slice po q pc).ownBlock ≠ some g ∧ ∀ j, (Value.slice po q pc).ownBlock = some j → B ≤ j) := ⟨hgo, hg, hc, hpg, hownB⟩
  clear hgo hg hc hpg hownB
  go_enter Try.func5, Try.ntmps5
  go_wp2_with (at_builtin; refine wpList_append_own_at _ rfl (.tmp 16) (.tmp 18) 23 rfl B 29 t0 _ 1 24 Try.underlying23 hi hz0 hz1 hz2 rfl (by decide) _ _ _ rfl ((hpv.alloc _).alloc _) ⟨w.heap.size + 1, 0, none⟩ 1 1 [.slice (some ⟨g, 0, none⟩) cap cap] rfl rfl (cells_new_at _ [.slice (some ⟨g, 0, none⟩) cap cap] 29 (by simp)) (by intro u hu; simp at hu; subst hu; rfl) (by unfold maxLen; omega) (by omega) (by simp; omega) ?next)
  case next =>
    intro v' w6 hown6 hgrow6 _ hat6
    obtain ⟨po6, pc6, hv6, _⟩ := own_row hown6
    subst hv6
    have hlow : ∀ j, j < w.heap.size → (Value.slice po q pc).ownBlock ≠ some j → w6.heap[j]? = w.heap[j]? := fun j hj hne' => (hgrow6.block j (by simp; omega) (fun e => hne' e.symm)).trans ((heap_alloc_lt' _ _ (by simp; omega)).trans (heap_alloc_lt' _ _ hj))
    have hgo6 : w6.heap[go]? = some (bOwn (.slice po q pc)) := (hlow go hgolt (fun e => by have := HH.out.2.2.2.2 go e; omega)).trans HH.out.1
    have hg6 : w6.heap[g]? = some (.cells cur 42 (0, 0)) := (hlow g hglt HH.out.2.2.2.1).trans HH.out.2.1
    obtain ⟨W7, hW7⟩ : ∃ W7, W7 = w6.setCell ⟨go, 0, none⟩ (.slice po6 (q + 1) pc6) := ⟨_, rfl⟩
    have hoth : ∀ j, j ≠ go → W7.heap[j]? = w6.heap[j]? := fun j hj => by rw [hW7]; exact Below.heap_setCell _ _ _ _ hj
    have hnb : ∀ j, (Value.slice po6 (q + 1) pc6).ownBlock = some j → j ≠ g ∧ j ≠ go := by
      intro j hj
      have hBj := (hown6.lt j hj).1
      refine ⟨fun e => ?_, by omega⟩
      subst e
      rcases hat6 with h | h
      · exact HH.out.2.2.2.1 (h.symm.trans hj)
      · rw [hj] at h
        simp at h
        omega
    have HW : Hid (W7 = w6.setCell ⟨go, 0, none⟩ (.slice po6 (q + 1) pc6) ∧ W7.heap[go]? = some (bOwn (.slice po6 (q + 1) pc6)) ∧ W7.heap[g]? = some (.cells cur 42 (0, 0)) ∧ W7.ownsRow B 29 1 (.slice po6 (q + 1) pc6) (q + 1) (vs ++ [.slice (some ⟨g, 0, none⟩) cap cap]) ∧ w.heap.size ≤ W7.heap.size ∧ (∀ k, k < w.heap.size → k ≠ go → k ≠ g → (Value.slice po q pc).ownBlock ≠ some k → W7.heap[k]? = w.heap[k]?) ∧ (∀ j, (Value.slice po6 (q + 1) pc6).ownBlock = some j → j ≠ g) ∧ SameO w W7) := by
      refine ⟨hW7, by rw [hW7]; exact set_heap _ _ _ _ _ _ hgo6, (hoth g (fun e => hne e.symm)).trans hg6, own_heap hown6 (fun j hj => hoth j (hnb j hj).2), ?_, fun k h1 h2 h3 h4 => (hoth k h2).trans (hlow k h1 h4), fun j hj => (hnb j hj).1, by rw [hW7]; exact SameO.trans ⟨hgrow6.os, hgrow6.tape, hgrow6.output⟩ (sameO_set _ _ _)⟩
      have := hgrow6.size
      rw [hW7]
      simp at this ⊢
      omega
    obtain ⟨b0, b1, b2, b3, bz⟩ := blk4o hgo6
    clear hown6 hgrow6 hat6 hlow hgo6 hg6 hW7 hoth hnb
    go_wp2_with fail
    rw [← HW.out.1]
    clear b0 b1 b2 b3 bz a0 a1 a2 a3 az ka kz
    go_loopw [5] (fun i wr => ∃ (k : Nat) (cur' : Array Value), k ≤ cap ∧ i = .int .i64 k ∧ Hid (cur'.size = cap * 4 ∧ Marked cur' k ((q + 1 : Nat) : Int) ∧ wr.heap[g]? = some (.cells cur' 42 (0, 0)) ∧ wr.heap.size = W7.heap.size ∧ (∀ j, j ≠ g → wr.heap[j]? = W7.heap[j]?) ∧ SameO W7 wr)) (fun i _ => cap - (intOf i).toNat)
    case atStart => exact ⟨0, cur, Nat.zero_le _, rfl, HH.out.2.2.1, fun j hj => by omega, HW.out.2.2.1, rfl, fun _ _ => rfl, rfl, rfl, rfl⟩
    case round =>
      obtain ⟨k, cur', hk, rfl, HC⟩ := hrel
      have hgor : wr.heap[go]? = some (bOwn (.slice po6 (q + 1) pc6)) := (HC.out.2.2.2.2.1 go hne).trans HW.out.2.1
      obtain ⟨b0, b1, b2, b3, bz⟩ := blk4o hgor
      by_cases hlt : k < cap
      · have hsz := HC.out.1
        obtain ⟨⟨u0, hu0⟩, z0⟩ := blkW HC.out.2.2.1 (k * 4) (by omega)
        obtain ⟨⟨u1, hu1⟩, z1⟩ := blkW HC.out.2.2.1 (k * 4 + 1) (by omega)
        obtain ⟨⟨u2, hu2⟩, z2⟩ := blkW HC.out.2.2.1 (k * 4 + 2) (by omega)
        obtain ⟨⟨u3, hu3⟩, z3⟩ := blkW HC.out.2.2.1 (k * 4 + 3) (by omega)
        have hlti : (k : Int) < (cap : Int) := by omega
        have HR : Hid (((((wr.setCell ⟨g, k * 4, none⟩ (.string ⟨#[]⟩)).setCell ⟨g, k * 4 + 1, none⟩ (.int .i64 0)).setCell ⟨g, k * 4 + 2, none⟩ (.int .i64 0)).setCell ⟨g, k * 4 + 3, none⟩ (.int .i64 ((q + 1 : Nat) : Int))).heap[g]? = some (.cells ((((cur'.setIfInBounds (k * 4) (.string ⟨#[]⟩)).setIfInBounds (k * 4 + 1) (.int .i64 0)).setIfInBounds (k * 4 + 2) (.int .i64 0)).setIfInBounds (k * 4 + 3) (.int .i64 ((q + 1 : Nat) : Int))) 42 (0, 0))) :=
          set_heap _ g (k * 4 + 3) _ _ _ (set_heap _ g (k * 4 + 2) _ _ _ (set_heap _ g (k * 4 + 1) _ _ _ (set_heap _ g (k * 4) _ _ _ HC.out.2.2.1)))
        clear hsz hgor
        go_wp2_with fail
        go_roundw
        case rel =>
          refine ⟨k + 1, _, by omega, by go_num, ?_, marked_next HC.out.2.1 HC.out.1 hlt, HR.out, ?_, ?_, ?_⟩
          · simp; exact HC.out.1
          · simp; exact HC.out.2.2.2.1
          · intro j hj
            exact (Below.heap_setCell _ _ _ _ hj).trans ((Below.heap_setCell _ _ _ _ hj).trans ((Below.heap_setCell _ _ _ _ hj).trans ((Below.heap_setCell _ _ _ _ hj).trans (HC.out.2.2.2.2.1 j hj))))
          · exact HC.out.2.2.2.2.2.trans ((((sameO_set _ _ _).trans (sameO_set _ _ _)).trans (sameO_set _ _ _)).trans (sameO_set _ _ _))
        case measure => simp [intOf]; omega
      · obtain rfl : k = cap := by omega
        clear hgor
        go_wp2_with fail
        refine bodyPost_end (v := .tuple #[]) (by simp [results, Try.results5, go_sem]) rfl ?_
        refine ⟨⟨_, rfl⟩, po6, pc6, (HC.out.2.2.2.2.1 go hne).trans HW.out.2.1, own_heap HW.out.2.2.2.1 (fun j hj => HC.out.2.2.2.2.1 j (HW.out.2.2.2.2.2.2.1 j hj)), .inr ⟨g, k, cur', rfl, HC.out.2.2.1, HC.out.2.1⟩, by rw [HC.out.2.2.2.1]; exact HW.out.2.2.2.2.1, fun j h1 h2 h3 h4 => (HC.out.2.2.2.2.1 j h3).trans (HW.out.2.2.2.2.2.1 j h1 h2 h3 h4), HW.out.2.2.2.2.2.2.2.trans HC.out.2.2.2.2.2⟩
end Co
end Go.Proofs.Ytbdekfghddekkaa
