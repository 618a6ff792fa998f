
import Derived.Test.YtfdnfopnhhfmkaaDoorPrE
import Derived.Deep.RegionWith
namespace Go.Proofs.YtfdnfopnhhfmkaaDoor
open Go.RowKit
namespace Pr

theorem hideIt {p : Prop} (h : p) : Hid p := h

set_option maxHeartbeats 1000000 in
theorem still_true (b : Int) (g : Nat) (ao : Option Addr) (c n : Nat) (ps : List Pl) (w : World) (hps : Pools w ao ps) (hh : Pools w (some ⟨g, 0, none⟩) (ps ++ [fgn, fgn])) (hn : ps.length = n) (hlen : n * 40 ≤ 140737488351232) :
    Calls Tryd.prog 8 #[.agg #[.int .i64 b, .slice (some ⟨g, 0, none⟩) n (n + 2)], .agg #[.int .i64 b, .slice ao n c]] w fun e w' => e = .returned (.bool true) ∧ Below w.heap.size w w' := by
  have HN : Hid (ps.length = n) := hn
  clear hn
  have HP : Hid (Pools w ao ps ∧ Pools w (some ⟨g, 0, none⟩) ps ∧ Pools w (some ⟨g, 0, none⟩) (ps ++ [fgn, fgn])) := by
    refine ⟨hps, ?_, hh⟩
    rcases hh with h | ⟨bl, off, h1, h2, h3⟩
    · simp at h
    · exact .inr ⟨bl, off, h1, h2, fun i p hp => h3 i p (by rw [List.getElem?_append_left (List.getElem?_eq_some_iff.1 hp).1]; exact hp)⟩
  clear hps hh
  obtain ⟨W2, hW2⟩ : ∃ W2, W2 = (w.alloc (bTab b (some ⟨g, 0, none⟩) n (n + 2))).alloc (bTab b ao n c) := ⟨_, rfl⟩
  have hb2 : Below w.heap.size w W2 := by rw [hW2]; exact nx_trans (nx_alloc _ _) (nx_alloc _ _)
  have hz2 : W2.heap.size = w.heap.size + 2 := by rw [hW2]; simp
  have hc1 : W2.cell? ⟨w.heap.size, 1, none⟩ = some (.slice (some ⟨g, 0, none⟩) n (n + 2)) := by rw [hW2]; simp
  have hc2 : W2.cell? ⟨w.heap.size + 1, 1, none⟩ = some (.slice ao n c) := by rw [hW2]; simp
  have hsame := same_true b (some ⟨g, 0, none⟩) ao n (n + 2) c ps W2 (HP.out.2.1.nx hb2) (HP.out.1.nx hb2) HN.out (by unfold maxLen; omega)
  rw [hW2] at hsame
  have HS := hideIt hsame
  clear hsame
  have H2 : Hid (W2 = (w.alloc (bTab b (some ⟨g, 0, none⟩) n (n + 2))).alloc (bTab b ao n c) ∧ Below w.heap.size w W2 ∧ W2.heap.size = w.heap.size + 2 ∧ W2.cell? ⟨w.heap.size, 1, none⟩ = some (.slice (some ⟨g, 0, none⟩) n (n + 2)) ∧ W2.cell? ⟨w.heap.size + 1, 1, none⟩ = some (.slice ao n c)) := ⟨hW2, hb2, hz2, hc1, hc2⟩
  clear hW2 hb2 hz2 hc1 hc2
  go_enter Tryd.func8, Tryd.ntmps8
  go_wp2_with fail
  refine HS.out.mono ?_; rintro e w1 ⟨rfl, hb1⟩
  rw [← H2.out.1] at hb1
  have hz := H2.out.2.2.1
  have d1 : w1.cell? ⟨w.heap.size, 1, none⟩ = some (.slice (some ⟨g, 0, none⟩) n (n + 2)) := (hb1.cell (p := ⟨w.heap.size, 1, none⟩) (show w.heap.size < _ by omega)).trans H2.out.2.2.2.1
  have d2 : w1.cell? ⟨w.heap.size + 1, 1, none⟩ = some (.slice ao n c) := (hb1.cell (p := ⟨w.heap.size + 1, 1, none⟩) (show w.heap.size + 1 < _ by omega)).trans H2.out.2.2.2.2
  have H1 : Hid (Below w.heap.size w w1 ∧ w.heap.size + 2 ≤ w1.heap.size) := ⟨nx_trans H2.out.2.1 hb1, by have := hb1.size; omega⟩
  clear hb1 hz H2 HS
  go_wp2_with fail
  go_loopw [7] (fun i wr => ∃ (k : Nat), n ≤ k ∧ k ≤ n + 2 ∧ i = .int .i64 k ∧ Below w1.heap.size w1 wr) (fun i _ => n + 2 - (intOf i).toNat)
  case atStart => exact ⟨n, Nat.le_refl _, by omega, rfl, Below.refl _ _⟩
  case round =>
    obtain ⟨k, hk1, hk2, rfl, hbel⟩ := hrel
    have HB : Hid (Below w.heap.size w wr) := nx_trans H1.out.1 hbel
    by_cases hlt : k < n + 2
    · have hp : (ps ++ [fgn, fgn])[k]? = some fgn := by
        rw [List.getElem?_append_right (by rw [HN.out]; omega), HN.out]
        have : k - n = 0 ∨ k - n = 1 := by omega
        rcases this with h | h <;> rw [h] <;> rfl
      obtain ⟨bl, off, e1, hbl, c0, c1, c2, c3, hs⟩ := (HP.out.2.2.nx HB.out).at hp
      obtain ⟨rfl, rfl⟩ : g = bl ∧ 0 = off := by simpa using e1
      clear hp e1 hs
      simp only [Nat.zero_add, fgn] at c0 c1 c2 c3
      have hki : (k : Int) < (n : Int) + 2 := by omega
      have k0 : (wr.alloc bFgn).cell? ⟨g, k * 4, none⟩ = some (.string sForeign) := ((nx_alloc wr bFgn).cell (p := ⟨g, k * 4, none⟩) hbl).trans c0
      have k1 : (wr.alloc bFgn).cell? ⟨g, k * 4 + 1, none⟩ = some (.int .i64 7) := ((nx_alloc wr bFgn).cell (p := ⟨g, k * 4 + 1, none⟩) hbl).trans c1
      have k2 : (wr.alloc bFgn).cell? ⟨g, k * 4 + 2, none⟩ = some (.int .i64 7) := ((nx_alloc wr bFgn).cell (p := ⟨g, k * 4 + 2, none⟩) hbl).trans c2
      have k3 : (wr.alloc bFgn).cell? ⟨g, k * 4 + 3, none⟩ = some (.int .i64 7) := ((nx_alloc wr bFgn).cell (p := ⟨g, k * 4 + 3, none⟩) hbl).trans c3
      go_wp2_with fail
      go_region_with (go_at_call 9; refine (foreign_any _).mono ?_; rintro e w' ⟨rfl, rfl⟩)
      all_goals go_wp2_with fail
      all_goals
        go_roundw
        case rel => exact ⟨k + 1, by omega, by omega, by go_num, nx_trans hbel (nx_alloc _ _).drew⟩
        case measure => simp [intOf]; omega
    · go_wp2_with fail
      go_ret
      exact ⟨rfl, HB.out⟩
end Pr
end Go.Proofs.YtfdnfopnhhfmkaaDoor
