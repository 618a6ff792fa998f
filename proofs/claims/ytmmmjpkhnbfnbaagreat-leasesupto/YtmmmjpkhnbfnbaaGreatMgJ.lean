import Derived.Test.YtmmmjpkhnbfnbaaGreatMgI
import Derived.Maps.AppendAt
namespace Go.Proofs.YtmmmjpkhnbfnbaaGreat
open Go.RowKit
namespace Lw
open Co

set_option maxRecDepth 20000 in
set_option maxHeartbeats 4000000 in
theorem otab_some (go g : Nat) (b : Int) (v2 v3 v4 : Value) (po : Option Addr) (pc q : Nat) (vs : List Value) (n cap : Nat) (cur : Array Value) (w : World) (hgo : w.heap[go]? = some (bOw (.slice po q pc) v2 v3 v4)) (hpv : w.ownsRow 0 29 1 (.slice po q pc) q vs) (hq : q ≤ 1099511627776)
    (hg : w.heap[g]? = some (.cells cur 70 (0, 0))) (hc : cur.size = cap * 4) (hcap : cap ≤ maxLen) (hn : n ≤ cap) :
    Calls Tryz.prog 32 #[.pointer (some ⟨go, 0, none⟩), .agg #[.int .i64 b, .slice (some ⟨g, 0, none⟩) n cap]] w fun e w' => (∃ x, e = .returned x) ∧ ∃ po6 pc6, w'.heap[go]? = some (bOw (.slice po6 (q + 1) pc6) v2 v3 v4) ∧ w'.ownsRow 0 29 1 (.slice po6 (q + 1) pc6) (q + 1) (vs ++ [.slice (some ⟨g, 0, none⟩) cap cap]) ∧ FullG 70 4 (mP ((q + 1 : Nat) : Int)) w' (.slice (some ⟨g, 0, none⟩) cap cap) ∧ Chg (fun x => x = go ∨ x = g ∨ (Value.slice po q pc).ownBlock = some x) w w' ∧ (∀ j, (Value.slice po6 (q + 1) pc6).ownBlock = some j → (Value.slice po q pc).ownBlock = some j ∨ w.heap.size ≤ j) := by
  obtain ⟨t0, hi, hz0, hz1, hz2⟩ := info_parts info_ps
  have HCAP := hideIt hcap
  unfold maxLen at hcap
  have hglt : g < w.heap.size := (Array.getElem?_eq_some_iff.1 hg).1
  have hgolt : go < w.heap.size := (Array.getElem?_eq_some_iff.1 hgo).1
  have hne : go ≠ g := by
    intro e
    rw [e, hg] at hgo
    simp at hgo
  obtain ⟨a0, a1, a2, a3, az⟩ := blkOw hgo
  have ka := fun o => (blkOw (w := w.alloc o) ((heap_alloc_lt' _ _ hgolt).trans hgo))
  have ka0 := fun o => (ka o).1
  have kz := fun o => (ka o).2.2.2.2
  clear ka
  have hpg : (Value.slice po q pc).ownBlock ≠ some g := by
    intro e
    obtain ⟨cur', h'⟩ := own_typed hpv g e
    rw [hg] at h'
    simp at h'
  have hpo : (Value.slice po q pc).ownBlock ≠ some go := by
    intro e
    obtain ⟨cur', h'⟩ := own_typed hpv go e
    rw [hgo] at h'
    simp at h'
  have HH : Hid (w.heap[go]? = some (bOw (.slice po q pc) v2 v3 v4) ∧ w.heap[g]? = some (.cells cur 70 (0, 0)) ∧ cur.size = cap * 4 ∧ (Value.slice po q pc).ownBlock ≠ some g ∧ (Value.slice po q pc).ownBlock ≠ some go) := ⟨hgo, hg, hc, hpg, hpo⟩
  clear hgo hg hc hpg hpo
  go_enter Tryz.func32, Tryz.ntmps32
  go_wp2_with (at_builtin; refine wpList_append_own_at _ rfl (.tmp 16) (.tmp 18) 42 rfl 0 29 t0 _ 1 24 Tryz.underlying42 hi hz0 hz1 hz2 rfl (by decide) _ _ _ rfl ((hpv.alloc _).alloc _) ⟨w.heap.size + 1, 0, none⟩ 1 1 [.slice (some ⟨g, 0, none⟩) cap cap] rfl rfl (cells_new_at _ [.slice (some ⟨g, 0, none⟩) cap cap] 29 (by simp)) (by intro u hu; simp at hu; subst hu; rfl) (by unfold maxLen; omega) (by omega) (Nat.zero_le _) ?next)
  case next =>
    intro v' w6 hown6 hgrow6 _ hat6
    obtain ⟨po6, pc6, hv6, _⟩ := own_row hown6
    subst hv6
    have hlow : ∀ j, j < w.heap.size → (Value.slice po q pc).ownBlock ≠ some j → w6.heap[j]? = w.heap[j]? := fun j hj hne' => (hgrow6.block j (by simp; omega) (fun e => hne' e.symm)).trans ((heap_alloc_lt' _ _ (by simp; omega)).trans (heap_alloc_lt' _ _ hj))
    have hgo6 : w6.heap[go]? = some (bOw (.slice po q pc) v2 v3 v4) := (hlow go hgolt HH.out.2.2.2.2).trans HH.out.1
    have hg6 : w6.heap[g]? = some (.cells cur 70 (0, 0)) := (hlow g hglt HH.out.2.2.2.1).trans HH.out.2.1
    obtain ⟨W7, hW7⟩ : ∃ W7, W7 = w6.setCell ⟨go, 0, none⟩ (.slice po6 (q + 1) pc6) := ⟨_, rfl⟩
    have hoth : ∀ j, j ≠ go → W7.heap[j]? = w6.heap[j]? := fun j hj => by rw [hW7]; exact Below.heap_setCell _ _ _ _ hj
    have hnb : ∀ j, (Value.slice po6 (q + 1) pc6).ownBlock = some j → (Value.slice po q pc).ownBlock = some j ∨ w.heap.size ≤ j := by
      intro j hj
      rcases hat6 with h | h
      · exact .inl (h.symm.trans hj)
      · right
        rw [hj] at h
        simp at h
        omega
    have hnb2 : ∀ j, (Value.slice po6 (q + 1) pc6).ownBlock = some j → j ≠ g ∧ j ≠ go := by
      intro j hj
      rcases hnb j hj with h | h
      · exact ⟨fun e => HH.out.2.2.2.1 (by rw [h, e]), fun e => HH.out.2.2.2.2 (by rw [h, e])⟩
      · exact ⟨by omega, by omega⟩
    have HW : Hid (W7 = w6.setCell ⟨go, 0, none⟩ (.slice po6 (q + 1) pc6) ∧ W7.heap[go]? = some (bOw (.slice po6 (q + 1) pc6) v2 v3 v4) ∧ W7.heap[g]? = some (.cells cur 70 (0, 0)) ∧ W7.ownsRow 0 29 1 (.slice po6 (q + 1) pc6) (q + 1) (vs ++ [.slice (some ⟨g, 0, none⟩) cap cap]) ∧ w.heap.size ≤ W7.heap.size ∧ (∀ k, k < w.heap.size → k ≠ go → (Value.slice po q pc).ownBlock ≠ some k → W7.heap[k]? = w.heap[k]?) ∧ (∀ j, (Value.slice po6 (q + 1) pc6).ownBlock = some j → j ≠ g) ∧ SameW w W7 ∧ (∀ j, (Value.slice po6 (q + 1) pc6).ownBlock = some j → (Value.slice po q pc).ownBlock = some j ∨ w.heap.size ≤ j)) := by
      refine ⟨hW7, by rw [hW7]; exact set_heap _ _ _ _ _ _ hgo6, (hoth g (fun e => hne e.symm)).trans hg6, ownG_heap hown6 (fun j hj => hoth j (hnb2 j hj).2), ?_, fun k h1 h2 h4 => (hoth k h2).trans (hlow k h1 h4), fun j hj => (hnb2 j hj).1, by rw [hW7]; exact SameW.trans ⟨hgrow6.os, hgrow6.tape, hgrow6.output⟩ (sameW_set _ _ _), hnb⟩
      have := hgrow6.size
      rw [hW7]
      simp at this ⊢
      omega
    obtain ⟨b0, b1, b2, b3, bz⟩ := blkOw hgo6
    clear hown6 hgrow6 hat6 hlow hgo6 hg6 hW7 hoth hnb hnb2
    go_wp2_with fail
    rw [← HW.out.1]
    clear b0 b1 b2 b3 bz a0 a1 a2 a3 az ka0 kz
    go_loopw [5] (fun i wr => ∃ (k : Nat) (cur' : Array Value), k ≤ cap ∧ i = .int .i64 k ∧ Hid (cur'.size = cap * 4 ∧ MarkG 4 (mP ((q + 1 : Nat) : Int)) cur' k ∧ wr.heap[g]? = some (.cells cur' 70 (0, 0)) ∧ wr.heap.size = W7.heap.size ∧ (∀ j, j ≠ g → wr.heap[j]? = W7.heap[j]?) ∧ SameW W7 wr)) (fun i _ => cap - (intOf i).toNat)
    case atStart => exact ⟨0, cur, Nat.zero_le _, rfl, HH.out.2.2.1, mark_zero _ _ _, HW.out.2.2.1, rfl, fun _ _ => rfl, rfl, rfl, rfl⟩
    case round =>
      obtain ⟨k, cur', hk, rfl, HC⟩ := hrel
      have hgor : wr.heap[go]? = some (bOw (.slice po6 (q + 1) pc6) v2 v3 v4) := (HC.out.2.2.2.2.1 go hne).trans HW.out.2.1
      obtain ⟨b0, b1, b2, b3, bz⟩ := blkOw hgor
      by_cases hlt : k < cap
      · have hsz := HC.out.1
        obtain ⟨⟨u0, hu0⟩, z0⟩ := blkC HC.out.2.2.1 (k * 4) (by omega)
        obtain ⟨⟨u1, hu1⟩, z1⟩ := blkC HC.out.2.2.1 (k * 4 + 1) (by omega)
        obtain ⟨⟨u2, hu2⟩, z2⟩ := blkC HC.out.2.2.1 (k * 4 + 2) (by omega)
        obtain ⟨⟨u3, hu3⟩, z3⟩ := blkC HC.out.2.2.1 (k * 4 + 3) (by omega)
        have hlti : (k : Int) < (cap : Int) := by omega
        have HR : Hid (((((wr.setCell ⟨g, k * 4, none⟩ (.string ⟨#[]⟩)).setCell ⟨g, k * 4 + 1, none⟩ (.int .i64 0)).setCell ⟨g, k * 4 + 2, none⟩ (.int .i64 0)).setCell ⟨g, k * 4 + 3, none⟩ (.int .i64 ((q + 1 : Nat) : Int))).heap[g]? = some (.cells ((((cur'.setIfInBounds (k * 4) (.string ⟨#[]⟩)).setIfInBounds (k * 4 + 1) (.int .i64 0)).setIfInBounds (k * 4 + 2) (.int .i64 0)).setIfInBounds (k * 4 + 3) (.int .i64 ((q + 1 : Nat) : Int))) 70 (0, 0))) :=
          (set_heap _ g (k * 4 + 3) _ _ _ (set_heap _ g (k * 4 + 2) _ _ _ (set_heap _ g (k * 4 + 1) _ _ _ (set_heap _ g (k * 4) _ _ _ HC.out.2.2.1))))
        clear hsz hgor
        go_wp2_with fail
        go_roundw
        case rel =>
          refine ⟨k + 1, _, by omega, by go_num, ?_, mark_4 HC.out.2.1 HC.out.1 hlt, HR.out, ?_, ?_, ?_⟩
          · simp; exact HC.out.1
          · simp; exact HC.out.2.2.2.1
          · intro j hj
            exact (Below.heap_setCell _ _ _ _ hj).trans ((Below.heap_setCell _ _ _ _ hj).trans ((Below.heap_setCell _ _ _ _ hj).trans ((Below.heap_setCell _ _ _ _ hj).trans (HC.out.2.2.2.2.1 j hj))))
          · exact HC.out.2.2.2.2.2.trans ((((sameW_set _ _ _).trans (sameW_set _ _ _)).trans (sameW_set _ _ _)).trans (sameW_set _ _ _))
        case measure => simp [intOf]; omega
      · obtain rfl : k = cap := by omega
        clear hgor
        go_wp2_with fail
        refine bodyPost_end (v := .tuple #[]) (by simp [results, Tryz.results32, go_sem]) rfl ?_
        have hS := HW.out.2.2.2.2.2.2.2.1.trans HC.out.2.2.2.2.2
        refine ⟨⟨_, rfl⟩, po6, pc6, (HC.out.2.2.2.2.1 go hne).trans HW.out.2.1, ownG_heap HW.out.2.2.2.1 (fun j hj => HC.out.2.2.2.2.1 j (HW.out.2.2.2.2.2.2.1 j hj)), .inr ⟨g, k, cur', rfl, HCAP.out, HC.out.2.2.1, HC.out.2.1⟩, ⟨hS.1, hS.2.1, hS.2.2, by rw [HC.out.2.2.2.1]; exact HW.out.2.2.2.2.1, fun j h1 h2 => (HC.out.2.2.2.2.1 j (fun e => h2 (.inr (.inl e)))).trans (HW.out.2.2.2.2.2.1 j h1 (fun e => h2 (.inl e)) (fun e => h2 (.inr (.inr e))))⟩, HW.out.2.2.2.2.2.2.2.2⟩

set_option maxRecDepth 20000 in
set_option maxHeartbeats 4000000 in
theorem otab_nil (go : Nat) (b : Int) (v2 v3 v4 : Value) (po : Option Addr) (pc q : Nat) (vs : List Value) (w : World) (hgo : w.heap[go]? = some (bOw (.slice po q pc) v2 v3 v4)) (hpv : w.ownsRow 0 29 1 (.slice po q pc) q vs) (hq : q ≤ 1099511627776) :
    Calls Tryz.prog 32 #[.pointer (some ⟨go, 0, none⟩), .agg #[.int .i64 b, .slice none 0 0]] w fun e w' => (∃ x, e = .returned x) ∧ ∃ po6 pc6, w'.heap[go]? = some (bOw (.slice po6 (q + 1) pc6) v2 v3 v4) ∧ w'.ownsRow 0 29 1 (.slice po6 (q + 1) pc6) (q + 1) (vs ++ [.slice none 0 0]) ∧ Chg (fun x => x = go ∨ (Value.slice po q pc).ownBlock = some x) w w' ∧ (∀ j, (Value.slice po6 (q + 1) pc6).ownBlock = some j → (Value.slice po q pc).ownBlock = some j ∨ w.heap.size ≤ j) := by
  obtain ⟨t0, hi, hz0, hz1, hz2⟩ := info_parts info_ps
  have hgolt : go < w.heap.size := (Array.getElem?_eq_some_iff.1 hgo).1
  obtain ⟨a0, a1, a2, a3, az⟩ := blkOw hgo
  have ka := fun o => (blkOw (w := w.alloc o) ((heap_alloc_lt' _ _ hgolt).trans hgo))
  have ka0 := fun o => (ka o).1
  have kz := fun o => (ka o).2.2.2.2
  clear ka
  have hpo : (Value.slice po q pc).ownBlock ≠ some go := by
    intro e
    obtain ⟨cur', h'⟩ := own_typed hpv go e
    rw [hgo] at h'
    simp at h'
  have HH : Hid (w.heap[go]? = some (bOw (.slice po q pc) v2 v3 v4) ∧ (Value.slice po q pc).ownBlock ≠ some go) := ⟨hgo, hpo⟩
  clear hgo hpo
  go_enter Tryz.func32, Tryz.ntmps32
  go_wp2_with (at_builtin; refine wpList_append_own_at _ rfl (.tmp 16) (.tmp 18) 42 rfl 0 29 t0 _ 1 24 Tryz.underlying42 hi hz0 hz1 hz2 rfl (by decide) _ _ _ rfl ((hpv.alloc _).alloc _) ⟨w.heap.size + 1, 0, none⟩ 1 1 [.slice none 0 0] rfl rfl (cells_new_at _ [.slice none 0 0] 29 (by simp)) (by intro u hu; simp at hu; subst hu; rfl) (by unfold maxLen; omega) (by omega) (Nat.zero_le _) ?next)
  case next =>
    intro v' w6 hown6 hgrow6 _ hat6
    obtain ⟨po6, pc6, hv6, _⟩ := own_row hown6
    subst hv6
    have hlow : ∀ j, j < w.heap.size → (Value.slice po q pc).ownBlock ≠ some j → w6.heap[j]? = w.heap[j]? := fun j hj hne' => (hgrow6.block j (by simp; omega) (fun e => hne' e.symm)).trans ((heap_alloc_lt' _ _ (by simp; omega)).trans (heap_alloc_lt' _ _ hj))
    have hgo6 : w6.heap[go]? = some (bOw (.slice po q pc) v2 v3 v4) := (hlow go hgolt HH.out.2).trans HH.out.1
    obtain ⟨W7, hW7⟩ : ∃ W7, W7 = w6.setCell ⟨go, 0, none⟩ (.slice po6 (q + 1) pc6) := ⟨_, rfl⟩
    have hoth : ∀ j, j ≠ go → W7.heap[j]? = w6.heap[j]? := fun j hj => by rw [hW7]; exact Below.heap_setCell _ _ _ _ hj
    have hnb : ∀ j, (Value.slice po6 (q + 1) pc6).ownBlock = some j → (Value.slice po q pc).ownBlock = some j ∨ w.heap.size ≤ j := by
      intro j hj
      rcases hat6 with h | h
      · exact .inl (h.symm.trans hj)
      · right
        rw [hj] at h
        simp at h
        omega
    have hnb2 : ∀ j, (Value.slice po6 (q + 1) pc6).ownBlock = some j → j ≠ go := by
      intro j hj
      rcases hnb j hj with h | h
      · exact fun e => HH.out.2 (by rw [h, e])
      · omega
    have hsz7 : w.heap.size ≤ W7.heap.size := by
      have := hgrow6.size
      rw [hW7]
      simp at this ⊢
      omega
    have hS : SameW w W7 := by rw [hW7]; exact SameW.trans ⟨hgrow6.os, hgrow6.tape, hgrow6.output⟩ (sameW_set _ _ _)
    have HW : Hid (W7 = w6.setCell ⟨go, 0, none⟩ (.slice po6 (q + 1) pc6) ∧ W7.heap[go]? = some (bOw (.slice po6 (q + 1) pc6) v2 v3 v4) ∧ W7.ownsRow 0 29 1 (.slice po6 (q + 1) pc6) (q + 1) (vs ++ [.slice none 0 0]) ∧ Chg (fun x => x = go ∨ (Value.slice po q pc).ownBlock = some x) w W7 ∧ (∀ j, (Value.slice po6 (q + 1) pc6).ownBlock = some j → (Value.slice po q pc).ownBlock = some j ∨ w.heap.size ≤ j)) :=
      ⟨hW7, by rw [hW7]; exact set_heap _ _ _ _ _ _ hgo6, ownG_heap hown6 (fun j hj => hoth j (hnb2 j hj)), ⟨hS.1, hS.2.1, hS.2.2, hsz7, fun k h1 h2 => (hoth k (fun e => h2 (.inl e))).trans (hlow k h1 (fun e => h2 (.inr e)))⟩, hnb⟩
    obtain ⟨b0, b1, b2, b3, bz⟩ := blkOw hgo6
    clear hown6 hgrow6 hat6 hlow hgo6 hW7 hoth hnb hnb2 hsz7 hS
    go_wp2_with fail
    rw [← HW.out.1]
    clear b0 b1 b2 b3 bz a0 a1 a2 a3 az ka0 kz
    go_loopw [5] (fun i wr => i = .int .i64 0 ∧ wr = W7) (fun _ _ => 0)
    case atStart => exact ⟨rfl, rfl⟩
    case round =>
      obtain ⟨rfl, rfl⟩ := hrel
      go_wp2_with fail
      refine bodyPost_end (v := .tuple #[]) (by simp [results, Tryz.results32, go_sem]) rfl ?_
      exact ⟨⟨_, rfl⟩, po6, pc6, HW.out.2.1, HW.out.2.2.1, HW.out.2.2.2.1, HW.out.2.2.2.2⟩

end Lw
end Go.Proofs.YtmmmjpkhnbfnbaaGreat
namespace Go.Proofs.YtmmmjpkhnbfnbaaGreat
open Go.RowKit
namespace Lw
open Co

set_option maxRecDepth 20000 in
set_option maxHeartbeats 4000000 in
theorem opln_some (go g : Nat) (v1 v2 v3 : Value) (po : Option Addr) (pc q : Nat) (vs : List Value) (n cap : Nat) (cur : Array Value) (w : World) (hgo : w.heap[go]? = some (bOw v1 v2 v3 (.slice po q pc))) (hpv : w.ownsRow 0 34 1 (.slice po q pc) q vs) (hq : q ≤ 1099511627776)
    (hg : w.heap[g]? = some (.cells cur 72 (0, 0))) (hc : cur.size = cap * 3) (hcap : cap ≤ maxLen) (hn : n ≤ cap) :
    Calls Tryz.prog 33 #[.pointer (some ⟨go, 0, none⟩), .slice (some ⟨g, 0, none⟩) n cap] w fun e w' => (∃ x, e = .returned x) ∧ ∃ po6 pc6, w'.heap[go]? = some (bOw v1 v2 v3 (.slice po6 (q + 1) pc6)) ∧ w'.ownsRow 0 34 1 (.slice po6 (q + 1) pc6) (q + 1) (vs ++ [.slice (some ⟨g, 0, none⟩) cap cap]) ∧ FullG 72 3 (mT ((q + 1 : Nat) : Int)) w' (.slice (some ⟨g, 0, none⟩) cap cap) ∧ Chg (fun x => x = go ∨ x = g ∨ (Value.slice po q pc).ownBlock = some x) w w' ∧ (∀ j, (Value.slice po6 (q + 1) pc6).ownBlock = some j → (Value.slice po q pc).ownBlock = some j ∨ w.heap.size ≤ j) := by
  obtain ⟨t0, hi, hz0, hz1, hz2⟩ := info_parts info_ts
  have HCAP := hideIt hcap
  unfold maxLen at hcap
  have hglt : g < w.heap.size := (Array.getElem?_eq_some_iff.1 hg).1
  have hgolt : go < w.heap.size := (Array.getElem?_eq_some_iff.1 hgo).1
  have hne : go ≠ g := by
    intro e
    rw [e, hg] at hgo
    simp at hgo
  obtain ⟨a0, a1, a2, a3, az⟩ := blkOw hgo
  have hpg : (Value.slice po q pc).ownBlock ≠ some g := by
    intro e
    obtain ⟨cur', h'⟩ := own_typed hpv g e
    rw [hg] at h'
    simp at h'
  have hpo : (Value.slice po q pc).ownBlock ≠ some go := by
    intro e
    obtain ⟨cur', h'⟩ := own_typed hpv go e
    rw [hgo] at h'
    simp at h'
  have HH : Hid (w.heap[go]? = some (bOw v1 v2 v3 (.slice po q pc)) ∧ w.heap[g]? = some (.cells cur 72 (0, 0)) ∧ cur.size = cap * 3 ∧ (Value.slice po q pc).ownBlock ≠ some g ∧ (Value.slice po q pc).ownBlock ≠ some go) := ⟨hgo, hg, hc, hpg, hpo⟩
  clear hgo hg hc hpg hpo
  go_enter Tryz.func33, Tryz.ntmps33
  go_wp2_with (at_builtin; refine wpList_append_own_at _ rfl (.tmp 14) (.tmp 16) 45 rfl 0 34 t0 _ 1 24 Tryz.underlying45 hi hz0 hz1 hz2 rfl (by decide) _ _ _ rfl (hpv.alloc _) ⟨w.heap.size, 0, none⟩ 1 1 [.slice (some ⟨g, 0, none⟩) cap cap] rfl rfl (cells_new_at _ [.slice (some ⟨g, 0, none⟩) cap cap] 34 (by simp)) (by intro u hu; simp at hu; subst hu; rfl) (by unfold maxLen; omega) (by omega) (Nat.zero_le _) ?next)
  case next =>
    intro v' w6 hown6 hgrow6 _ hat6
    obtain ⟨po6, pc6, hv6, _⟩ := own_row hown6
    subst hv6
    have hlow : ∀ j, j < w.heap.size → (Value.slice po q pc).ownBlock ≠ some j → w6.heap[j]? = w.heap[j]? := fun j hj hne' => (hgrow6.block j (by simp; omega) (fun e => hne' e.symm)).trans (heap_alloc_lt' _ _ hj)
    have hgo6 : w6.heap[go]? = some (bOw v1 v2 v3 (.slice po q pc)) := (hlow go hgolt HH.out.2.2.2.2).trans HH.out.1
    have hg6 : w6.heap[g]? = some (.cells cur 72 (0, 0)) := (hlow g hglt HH.out.2.2.2.1).trans HH.out.2.1
    obtain ⟨W7, hW7⟩ : ∃ W7, W7 = w6.setCell ⟨go, 3, none⟩ (.slice po6 (q + 1) pc6) := ⟨_, rfl⟩
    have hoth : ∀ j, j ≠ go → W7.heap[j]? = w6.heap[j]? := fun j hj => by rw [hW7]; exact Below.heap_setCell _ _ _ _ hj
    have hnb : ∀ j, (Value.slice po6 (q + 1) pc6).ownBlock = some j → (Value.slice po q pc).ownBlock = some j ∨ w.heap.size ≤ j := by
      intro j hj
      rcases hat6 with h | h
      · exact .inl (h.symm.trans hj)
      · right
        rw [hj] at h
        simp at h
        omega
    have hnb2 : ∀ j, (Value.slice po6 (q + 1) pc6).ownBlock = some j → j ≠ g ∧ j ≠ go := by
      intro j hj
      rcases hnb j hj with h | h
      · exact ⟨fun e => HH.out.2.2.2.1 (by rw [h, e]), fun e => HH.out.2.2.2.2 (by rw [h, e])⟩
      · exact ⟨by omega, by omega⟩
    have HW : Hid (W7 = w6.setCell ⟨go, 3, none⟩ (.slice po6 (q + 1) pc6) ∧ W7.heap[go]? = some (bOw v1 v2 v3 (.slice po6 (q + 1) pc6)) ∧ W7.heap[g]? = some (.cells cur 72 (0, 0)) ∧ W7.ownsRow 0 34 1 (.slice po6 (q + 1) pc6) (q + 1) (vs ++ [.slice (some ⟨g, 0, none⟩) cap cap]) ∧ w.heap.size ≤ W7.heap.size ∧ (∀ k, k < w.heap.size → k ≠ go → (Value.slice po q pc).ownBlock ≠ some k → W7.heap[k]? = w.heap[k]?) ∧ (∀ j, (Value.slice po6 (q + 1) pc6).ownBlock = some j → j ≠ g) ∧ SameW w W7 ∧ (∀ j, (Value.slice po6 (q + 1) pc6).ownBlock = some j → (Value.slice po q pc).ownBlock = some j ∨ w.heap.size ≤ j)) := by
      refine ⟨hW7, by rw [hW7]; exact set_heap _ _ _ _ _ _ hgo6, (hoth g (fun e => hne e.symm)).trans hg6, ownG_heap hown6 (fun j hj => hoth j (hnb2 j hj).2), ?_, fun k h1 h2 h4 => (hoth k h2).trans (hlow k h1 h4), fun j hj => (hnb2 j hj).1, by rw [hW7]; exact SameW.trans ⟨hgrow6.os, hgrow6.tape, hgrow6.output⟩ (sameW_set _ _ _), hnb⟩
      have := hgrow6.size
      rw [hW7]
      simp at this ⊢
      omega
    obtain ⟨b0, b1, b2, b3, bz⟩ := blkOw hgo6
    clear hown6 hgrow6 hat6 hlow hgo6 hg6 hW7 hoth hnb hnb2
    go_wp2_with fail
    rw [← HW.out.1]
    clear b0 b1 b2 b3 bz a0 a1 a2 a3 az 
    go_loopw [5] (fun i wr => ∃ (k : Nat) (cur' : Array Value), k ≤ cap ∧ i = .int .i64 k ∧ Hid (cur'.size = cap * 3 ∧ MarkG 3 (mT ((q + 1 : Nat) : Int)) cur' k ∧ wr.heap[g]? = some (.cells cur' 72 (0, 0)) ∧ wr.heap.size = W7.heap.size ∧ (∀ j, j ≠ g → wr.heap[j]? = W7.heap[j]?) ∧ SameW W7 wr)) (fun i _ => cap - (intOf i).toNat)
    case atStart => exact ⟨0, cur, Nat.zero_le _, rfl, HH.out.2.2.1, mark_zero _ _ _, HW.out.2.2.1, rfl, fun _ _ => rfl, rfl, rfl, rfl⟩
    case round =>
      obtain ⟨k, cur', hk, rfl, HC⟩ := hrel
      have hgor : wr.heap[go]? = some (bOw v1 v2 v3 (.slice po6 (q + 1) pc6)) := (HC.out.2.2.2.2.1 go hne).trans HW.out.2.1
      obtain ⟨b0, b1, b2, b3, bz⟩ := blkOw hgor
      by_cases hlt : k < cap
      · have hsz := HC.out.1
        obtain ⟨⟨u0, hu0⟩, z0⟩ := blkC HC.out.2.2.1 (k * 3) (by omega)
        obtain ⟨⟨u1, hu1⟩, z1⟩ := blkC HC.out.2.2.1 (k * 3 + 1) (by omega)
        obtain ⟨⟨u2, hu2⟩, z2⟩ := blkC HC.out.2.2.1 (k * 3 + 2) (by omega)
        have hlti : (k : Int) < (cap : Int) := by omega
        have HR : Hid ((((wr.setCell ⟨g, k * 3, none⟩ (.int .i64 0)).setCell ⟨g, k * 3 + 1, none⟩ (.string ⟨#[]⟩)).setCell ⟨g, k * 3 + 2, none⟩ (.int .i64 ((q + 1 : Nat) : Int))).heap[g]? = some (.cells (((cur'.setIfInBounds (k * 3) (.int .i64 0)).setIfInBounds (k * 3 + 1) (.string ⟨#[]⟩)).setIfInBounds (k * 3 + 2) (.int .i64 ((q + 1 : Nat) : Int))) 72 (0, 0))) :=
          (set_heap _ g (k * 3 + 2) _ _ _ (set_heap _ g (k * 3 + 1) _ _ _ (set_heap _ g (k * 3) _ _ _ HC.out.2.2.1)))
        clear hsz hgor
        go_wp2_with fail
        go_roundw
        case rel =>
          refine ⟨k + 1, _, by omega, by go_num, ?_, mark_3 HC.out.2.1 HC.out.1 hlt, HR.out, ?_, ?_, ?_⟩
          · simp; exact HC.out.1
          · simp; exact HC.out.2.2.2.1
          · intro j hj
            exact (Below.heap_setCell _ _ _ _ hj).trans ((Below.heap_setCell _ _ _ _ hj).trans ((Below.heap_setCell _ _ _ _ hj).trans (HC.out.2.2.2.2.1 j hj)))
          · exact HC.out.2.2.2.2.2.trans (((sameW_set _ _ _).trans (sameW_set _ _ _)).trans (sameW_set _ _ _))
        case measure => simp [intOf]; omega
      · obtain rfl : k = cap := by omega
        clear hgor
        go_wp2_with fail
        refine bodyPost_end (v := .tuple #[]) (by simp [results, Tryz.results33, go_sem]) rfl ?_
        have hS := HW.out.2.2.2.2.2.2.2.1.trans HC.out.2.2.2.2.2
        refine ⟨⟨_, rfl⟩, po6, pc6, (HC.out.2.2.2.2.1 go hne).trans HW.out.2.1, ownG_heap HW.out.2.2.2.1 (fun j hj => HC.out.2.2.2.2.1 j (HW.out.2.2.2.2.2.2.1 j hj)), .inr ⟨g, k, cur', rfl, HCAP.out, HC.out.2.2.1, HC.out.2.1⟩, ⟨hS.1, hS.2.1, hS.2.2, by rw [HC.out.2.2.2.1]; exact HW.out.2.2.2.2.1, fun j h1 h2 => (HC.out.2.2.2.2.1 j (fun e => h2 (.inr (.inl e)))).trans (HW.out.2.2.2.2.2.1 j h1 (fun e => h2 (.inl e)) (fun e => h2 (.inr (.inr e))))⟩, HW.out.2.2.2.2.2.2.2.2⟩

set_option maxRecDepth 20000 in
set_option maxHeartbeats 4000000 in
theorem opln_nil (go : Nat) (v1 v2 v3 : Value) (po : Option Addr) (pc q : Nat) (vs : List Value) (w : World) (hgo : w.heap[go]? = some (bOw v1 v2 v3 (.slice po q pc))) (hpv : w.ownsRow 0 34 1 (.slice po q pc) q vs) (hq : q ≤ 1099511627776) :
    Calls Tryz.prog 33 #[.pointer (some ⟨go, 0, none⟩), .slice none 0 0] w fun e w' => (∃ x, e = .returned x) ∧ ∃ po6 pc6, w'.heap[go]? = some (bOw v1 v2 v3 (.slice po6 (q + 1) pc6)) ∧ w'.ownsRow 0 34 1 (.slice po6 (q + 1) pc6) (q + 1) (vs ++ [.slice none 0 0]) ∧ Chg (fun x => x = go ∨ (Value.slice po q pc).ownBlock = some x) w w' ∧ (∀ j, (Value.slice po6 (q + 1) pc6).ownBlock = some j → (Value.slice po q pc).ownBlock = some j ∨ w.heap.size ≤ j) := by
  obtain ⟨t0, hi, hz0, hz1, hz2⟩ := info_parts info_ts
  have hgolt : go < w.heap.size := (Array.getElem?_eq_some_iff.1 hgo).1
  obtain ⟨a0, a1, a2, a3, az⟩ := blkOw hgo
  have hpo : (Value.slice po q pc).ownBlock ≠ some go := by
    intro e
    obtain ⟨cur', h'⟩ := own_typed hpv go e
    rw [hgo] at h'
    simp at h'
  have HH : Hid (w.heap[go]? = some (bOw v1 v2 v3 (.slice po q pc)) ∧ (Value.slice po q pc).ownBlock ≠ some go) := ⟨hgo, hpo⟩
  clear hgo hpo
  go_enter Tryz.func33, Tryz.ntmps33
  go_wp2_with (at_builtin; refine wpList_append_own_at _ rfl (.tmp 14) (.tmp 16) 45 rfl 0 34 t0 _ 1 24 Tryz.underlying45 hi hz0 hz1 hz2 rfl (by decide) _ _ _ rfl (hpv.alloc _) ⟨w.heap.size, 0, none⟩ 1 1 [.slice none 0 0] rfl rfl (cells_new_at _ [.slice none 0 0] 34 (by simp)) (by intro u hu; simp at hu; subst hu; rfl) (by unfold maxLen; omega) (by omega) (Nat.zero_le _) ?next)
  case next =>
    intro v' w6 hown6 hgrow6 _ hat6
    obtain ⟨po6, pc6, hv6, _⟩ := own_row hown6
    subst hv6
    have hlow : ∀ j, j < w.heap.size → (Value.slice po q pc).ownBlock ≠ some j → w6.heap[j]? = w.heap[j]? := fun j hj hne' => (hgrow6.block j (by simp; omega) (fun e => hne' e.symm)).trans (heap_alloc_lt' _ _ hj)
    have hgo6 : w6.heap[go]? = some (bOw v1 v2 v3 (.slice po q pc)) := (hlow go hgolt HH.out.2).trans HH.out.1
    obtain ⟨W7, hW7⟩ : ∃ W7, W7 = w6.setCell ⟨go, 3, none⟩ (.slice po6 (q + 1) pc6) := ⟨_, rfl⟩
    have hoth : ∀ j, j ≠ go → W7.heap[j]? = w6.heap[j]? := fun j hj => by rw [hW7]; exact Below.heap_setCell _ _ _ _ hj
    have hnb : ∀ j, (Value.slice po6 (q + 1) pc6).ownBlock = some j → (Value.slice po q pc).ownBlock = some j ∨ w.heap.size ≤ j := by
      intro j hj
      rcases hat6 with h | h
      · exact .inl (h.symm.trans hj)
      · right
        rw [hj] at h
        simp at h
        omega
    have hnb2 : ∀ j, (Value.slice po6 (q + 1) pc6).ownBlock = some j → j ≠ go := by
      intro j hj
      rcases hnb j hj with h | h
      · exact fun e => HH.out.2 (by rw [h, e])
      · omega
    have hsz7 : w.heap.size ≤ W7.heap.size := by
      have := hgrow6.size
      rw [hW7]
      simp at this ⊢
      omega
    have hS : SameW w W7 := by rw [hW7]; exact SameW.trans ⟨hgrow6.os, hgrow6.tape, hgrow6.output⟩ (sameW_set _ _ _)
    have HW : Hid (W7 = w6.setCell ⟨go, 3, none⟩ (.slice po6 (q + 1) pc6) ∧ W7.heap[go]? = some (bOw v1 v2 v3 (.slice po6 (q + 1) pc6)) ∧ W7.ownsRow 0 34 1 (.slice po6 (q + 1) pc6) (q + 1) (vs ++ [.slice none 0 0]) ∧ Chg (fun x => x = go ∨ (Value.slice po q pc).ownBlock = some x) w W7 ∧ (∀ j, (Value.slice po6 (q + 1) pc6).ownBlock = some j → (Value.slice po q pc).ownBlock = some j ∨ w.heap.size ≤ j)) :=
      ⟨hW7, by rw [hW7]; exact set_heap _ _ _ _ _ _ hgo6, ownG_heap hown6 (fun j hj => hoth j (hnb2 j hj)), ⟨hS.1, hS.2.1, hS.2.2, hsz7, fun k h1 h2 => (hoth k (fun e => h2 (.inl e))).trans (hlow k h1 (fun e => h2 (.inr e)))⟩, hnb⟩
    obtain ⟨b0, b1, b2, b3, bz⟩ := blkOw hgo6
    clear hown6 hgrow6 hat6 hlow hgo6 hW7 hoth hnb hnb2 hsz7 hS
    go_wp2_with fail
    rw [← HW.out.1]
    clear b0 b1 b2 b3 bz a0 a1 a2 a3 az 
    go_loopw [5] (fun i wr => i = .int .i64 0 ∧ wr = W7) (fun _ _ => 0)
    case atStart => exact ⟨rfl, rfl⟩
    case round =>
      obtain ⟨rfl, rfl⟩ := hrel
      go_wp2_with fail
      refine bodyPost_end (v := .tuple #[]) (by simp [results, Tryz.results33, go_sem]) rfl ?_
      exact ⟨⟨_, rfl⟩, po6, pc6, HW.out.2.1, HW.out.2.2.1, HW.out.2.2.2.1, HW.out.2.2.2.2⟩

end Lw
end Go.Proofs.YtmmmjpkhnbfnbaaGreat
