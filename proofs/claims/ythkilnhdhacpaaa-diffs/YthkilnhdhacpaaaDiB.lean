
import Derived.Test.YthkilnhdhacpaaaDiA
namespace Go.Proofs.Ythkilnhdhacpaaa
open Go.RowKit
namespace Df
open Co Lw

theorem rows_none (ty tyl : TypeId) (sz : Nat) (mk : Int → List Value) (w : World) (F : Nat → Prop) : RowsG ty tyl sz mk w F (.slice none 0 0) 0 :=
  ⟨[], World.ownsRow_nil _ _ _ _, fun g hg => by simp [Value.ownBlock] at hg, fun i x hx => by simp at hx⟩
theorem own_new {w : World} {go : Nat} (h : w.heap[go]? = some (bOw (.slice none 0 0) (.slice none 0 0) (.slice none 0 0) (.slice none 0 0))) : OwnAt w go (fun y => y = go) 0 0 0 0 :=
  ⟨⟨_, _, _, _, h, rows_none _ _ _ _ _ _, rows_none _ _ _ _ _ _, rows_none _ _ _ _ _ _, rows_none _ _ _ _ _ _⟩, rfl, fun x hx => by rw [hx]; exact (Array.getElem?_eq_some_iff.1 h).1⟩
set_option maxRecDepth 20000 in
set_option maxHeartbeats 4000000 in
theorem diffs_any (ba : Int) (ao : Option Addr) (n ac : Nat) (ps : List Pr.Pl) (bb : Int) (bo : Option Addr) (m bc : Nat) (qs : List Pr.Pl) (w : World) (hps : Pr.Pools w ao ps) (hn : ps.length = n) (hlen : n * 40 ≤ 140737488351232) (hc : n ≤ ac) (hqs : Pr.Pools w bo qs) (hm : qs.length = m) (hmen : m * 40 ≤ 140737488351232) (hc2 : m ≤ bc) :
    Calls Try.prog 3 #[.agg #[.int .i64 ba, .slice ao n ac], .agg #[.int .i64 bb, .slice bo m bc]] w fun e w' => e = .returned (.bool true) ∧ Below w.heap.size w w' := by
  obtain ⟨W, hW⟩ : ∃ W, W = ((w.alloc (bTab ba (.slice ao n ac))).alloc (bTab bb (.slice bo m bc))).alloc (bOw (.slice none 0 0) (.slice none 0 0) (.slice none 0 0) (.slice none 0 0)) := ⟨_, rfl⟩
  have hbW : Below w.heap.size w W := by rw [hW]; exact nx_trans (nx_trans (nx_alloc _ _) (nx_alloc _ _)) (nx_alloc _ _)
  have HW : Hid (W = ((w.alloc (bTab ba (.slice ao n ac))).alloc (bTab bb (.slice bo m bc))).alloc (bOw (.slice none 0 0) (.slice none 0 0) (.slice none 0 0) (.slice none 0 0)) ∧ W.heap[w.heap.size]? = some (bTab ba (.slice ao n ac)) ∧ W.heap[w.heap.size + 1]? = some (bTab bb (.slice bo m bc)) ∧ W.heap[w.heap.size + 2]? = some (bOw (.slice none 0 0) (.slice none 0 0) (.slice none 0 0) (.slice none 0 0)) ∧ W.heap.size = w.heap.size + 3 ∧ Below w.heap.size w W) := by
    refine ⟨hW, ?_, ?_, ?_, ?_, hbW⟩
    · rw [hW]; exact (heap_alloc_lt _ _ (by simp; omega)).trans ((heap_alloc_lt _ _ (by simp)).trans (heap_alloc_at _ _ rfl))
    · rw [hW]; exact (heap_alloc_lt _ _ (by simp)).trans (heap_alloc_at _ _ (by simp))
    · rw [hW]; exact heap_alloc_at _ _ (by simp)
    · rw [hW]; simp
  have HDF := hideIt (fun u (hb : Below w.heap.size w u) => differ_any ba ao n ac ps bb bo m bc qs u (hps.nx hb) hn hlen hc (hqs.nx hb) hm hmen hc2)
  clear hps hn hlen hc hqs hm hmen hc2 hW hbW
  go_enter Try.func3, Try.ntmps3
  go_wp2_with fail
  rw [← HW.out.1]
  refine (HDF.out W HW.out.2.2.2.2.2).mono ?_
  rintro e w1 ⟨L1, vo1, c1, rfl, ho1, hb1⟩
  obtain ⟨l1, hl1⟩ : ∃ l1, L1.length = l1 := ⟨_, rfl⟩
  rw [hl1] at ho1 ⊢
  have hz := HW.out.2.2.2.2.1
  have hOw1 : OwnAt w1 (w.heap.size + 2) (fun y => y = w.heap.size + 2) 0 0 0 0 := own_new (blk_nx HW.out.2.2.2.1 hb1)
  have HP1 := hideIt (opln_own (w.heap.size + 2) (fun y => y = w.heap.size + 2) 0 0 0 0 vo1 l1 c1 (flatT L1) w1 hOw1 (by omega) (own_mono ho1 (Nat.zero_le _)) (fun g hg h => by have := (ho1.lt g hg).1; omega))
  have H1 : Hid (Below W.heap.size W w1 ∧ ∀ g, (Value.slice vo1 l1 c1).ownBlock = some g → W.heap.size ≤ g) := ⟨hb1, fun g hg => (ho1.lt g hg).1⟩
  clear hOw1 ho1 hb1 hl1 hz
  go_wp2_with fail
  refine HP1.out.mono ?_
  rintro e w2 ⟨⟨x, rfl⟩, how2, hc2⟩
  have hz := HW.out.2.2.2.2.1
  have hb2 : Below (w.heap.size + 2) W w2 := (H1.out.1.mono (by omega)).trans (hc2.below (by have := H1.out.1.size; omega) (fun x hx => by
    rcases hx with hx | hx
    · omega
    · have := H1.out.2 x hx; omega))
  have H2 : Hid (OwnAt w2 (w.heap.size + 2) (Plus (fun y => y = w.heap.size + 2) (.slice vo1 l1 c1) w1 w2) 0 0 0 1 ∧ Below (w.heap.size + 2) W w2 ∧ (∀ y, Plus (fun y => y = w.heap.size + 2) (.slice vo1 l1 c1) w1 w2 y → w.heap.size + 2 ≤ y)) := by
    refine ⟨how2, hb2, fun y hy => ?_⟩
    rcases hy with h | h | h
    · omega
    · have := H1.out.2 y h; omega
    · have := H1.out.1.size; omega
  obtain ⟨a0, a1, az⟩ := blk2 ((hb2.block _ (by omega)).trans HW.out.2.1)
  obtain ⟨b0, b1, bz⟩ := blk2 ((hb2.block _ (by omega)).trans HW.out.2.2.1)
  have HBw2 : Hid (Below w.heap.size w w2) := HW.out.2.2.2.2.2.trans (hb2.mono (by omega))
  clear how2 hc2 hb2 hz HP1
  go_wp2_with fail
  refine (HDF.out w2 HBw2.out).mono ?_
  rintro e w3 ⟨L2, vo2, c2, rfl, ho3, hb3⟩
  obtain ⟨l2, hl2⟩ : ∃ l2, L2.length = l2 := ⟨_, rfl⟩
  rw [hl2] at ho3 ⊢
  obtain ⟨F, hF⟩ : ∃ F, F = Plus (fun y => y = w.heap.size + 2) (.slice vo1 l1 c1) w1 w2 := ⟨_, rfl⟩
  rw [← hF] at H2
  have how3 : OwnAt w3 (w.heap.size + 2) F 0 0 0 1 := H2.out.1.keep (G := fun _ => False) (Chg.of_below hb3) (fun _ _ h => h)
  have HP3 := hideIt (opln_own (w.heap.size + 2) F 0 0 0 1 vo2 l2 c2 (flatT L2) w3 how3 (by omega) (own_mono ho3 (Nat.zero_le _)) (fun g hg h => by have h1 := (ho3.lt g hg).1; have h2 := H2.out.1.lt g h; omega))
  have H3 : Hid (Below w2.heap.size w2 w3 ∧ ∀ g, (Value.slice vo2 l2 c2).ownBlock = some g → w2.heap.size ≤ g) := ⟨hb3, fun g hg => (ho3.lt g hg).1⟩
  clear how3 ho3 hb3 hl2 hF a0 a1 az b0 b1 bz
  go_wp2_with fail
  refine HP3.out.mono ?_
  rintro e w4 ⟨⟨x, rfl⟩, how4, hc4⟩
  have HBw4 : Hid (Below w.heap.size w w4) := by
    refine (HBw2.out.trans (H3.out.1.mono HBw2.out.size)).trans (hc4.below (Nat.le_trans HBw2.out.size H3.out.1.size) (fun x hx => ?_))
    rcases hx with hx | hx
    · have := H2.out.2.2 x hx; omega
    · have := H3.out.2 x hx; have := HBw2.out.size; omega
  have HKP := hideIt (okept_own (w.heap.size + 2) _ 0 0 2 w4 how4 ⟨by omega, by omega, by omega⟩)
  clear how4 hc4 HP3
  go_wp2_with fail
  refine HKP.out.mono ?_
  rintro e w5 ⟨rfl, hb5⟩
  have HE : Hid (Below w.heap.size w w5) := by rw [hb5]; exact HBw4.out
  clear hb5
  go_wp2_with fail
  go_ret
  exact ⟨rfl, HE.out⟩
end Df
end Go.Proofs.Ythkilnhdhacpaaa
