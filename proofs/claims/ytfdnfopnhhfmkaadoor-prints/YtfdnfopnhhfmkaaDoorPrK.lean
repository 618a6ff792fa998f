
import Derived.Test.YtfdnfopnhhfmkaaDoorPrJ
namespace Go.Proofs.YtfdnfopnhhfmkaaDoor
open Go.RowKit
namespace Pr

theorem Pools.left {w : World} {ao : Option Addr} {ps qs : List Pl} (hh : Pools w ao (ps ++ qs)) : Pools w ao ps := by
  rcases hh with h | ⟨bl, off, h1, h2, h3⟩
  · simp at h; exact .inl h.1
  · exact .inr ⟨bl, off, h1, h2, fun i p hp => h3 i p (by rw [List.getElem?_append_left (List.getElem?_eq_some_iff.1 hp).1]; exact hp)⟩

set_option maxHeartbeats 1000000 in
theorem printed_any (b : Int) (ao : Option Addr) (c n : Nat) (ps : List Pl) (w : World) (hps : Pools w ao ps) (hn : ps.length = n) (hlen : n * 40 ≤ 140737488351232) (ht : Tab w) :
    Calls Tryd.prog 4 #[.agg #[.int .i64 b, .slice ao n c]] w fun e w' => ∃ s, e = .returned (.tuple #[.string s, .bool true]) ∧ Below w.heap.size w w' := by
  have HN : Hid (ps.length = n) := hn
  have HM : Hid (n ≤ maxLen) := by show _ ≤ _; unfold maxLen; omega
  have HP : Hid (Pools w ao ps) := hps
  have HT : Hid (Tab w) := ht
  clear hn hps ht
  go_enter Tryd.func4, Tryd.ntmps4
  go_wp2_with fail
  refine (handed_any b ao c n ps _ (HP.out.nx (nx_alloc _ _)) HN.out hlen).mono ?_; rintro e w2 ⟨g, rfl, hp2, hb2⟩
  have q0 : w2.cell? ⟨w.heap.size, 0, none⟩ = some (.int .i64 b) := (hb2.cell (p := ⟨w.heap.size, 0, none⟩) (by simp)).trans (by simp)
  have q1 : w2.cell? ⟨w.heap.size, 1, none⟩ = some (.slice ao n c) := (hb2.cell (p := ⟨w.heap.size, 1, none⟩) (by simp)).trans (by simp)
  have hz2 : w.heap.size < w2.heap.size := sz_lt hb2
  have H2 : Hid (Below w.heap.size w w2 ∧ Pools w2 (some ⟨g, 0, none⟩) (ps ++ [fgn, fgn])) := ⟨nx_trans (nx_alloc _ _) hb2, hp2⟩
  clear hb2 hp2
  obtain ⟨W3, hW3⟩ : ∃ W3, W3 = w2.alloc (bTab b (some ⟨g, 0, none⟩) n (n + 2)) := ⟨_, rfl⟩
  have r0 : W3.cell? ⟨w.heap.size, 0, none⟩ = some (.int .i64 b) := by rw [hW3]; exact ((nx_alloc _ _).cell (p := ⟨w.heap.size, 0, none⟩) hz2).trans q0
  have r1 : W3.cell? ⟨w.heap.size, 1, none⟩ = some (.slice ao n c) := by rw [hW3]; exact ((nx_alloc _ _).cell (p := ⟨w.heap.size, 1, none⟩) hz2).trans q1
  have s0 : W3.cell? ⟨w2.heap.size, 0, none⟩ = some (.int .i64 b) := by rw [hW3]; simp
  have s1 : W3.cell? ⟨w2.heap.size, 1, none⟩ = some (.slice (some ⟨g, 0, none⟩) n (n + 2)) := by rw [hW3]; simp
  have H3 : Hid (W3 = w2.alloc (bTab b (some ⟨g, 0, none⟩) n (n + 2)) ∧ Below w.heap.size w W3 ∧ Pools W3 (some ⟨g, 0, none⟩) (ps ++ [fgn, fgn]) ∧ w2.heap.size < W3.heap.size) :=
    ⟨hW3, (by rw [hW3]; exact nx_trans H2.out.1 (nx_alloc _ _)), (by rw [hW3]; exact H2.out.2.nx (nx_alloc _ _)), (by rw [hW3]; simp)⟩
  clear hW3 q0 q1
  have hz3 : w.heap.size < W3.heap.size := Nat.lt_trans hz2 H3.out.2.2.2
  have hz3' : w2.heap.size < W3.heap.size := H3.out.2.2.2
  go_wp2_with fail
  rw [← H3.out.1]
  refine (pprint_any b (some ⟨g, 0, none⟩) (n + 2) n ps _ H3.out.2.2.1.left HN.out HM.out (HT.out.nx H3.out.2.1)).mono ?_; rintro e w4 ⟨rfl, hb4⟩
  have t0 : w4.cell? ⟨w.heap.size, 0, none⟩ = some (.int .i64 b) := (hb4.cell (p := ⟨w.heap.size, 0, none⟩) hz3).trans r0
  have t1 : w4.cell? ⟨w.heap.size, 1, none⟩ = some (.slice ao n c) := (hb4.cell (p := ⟨w.heap.size, 1, none⟩) hz3).trans r1
  have u0 : w4.cell? ⟨w2.heap.size, 0, none⟩ = some (.int .i64 b) := (hb4.cell (p := ⟨w2.heap.size, 0, none⟩) hz3').trans s0
  have u1 : w4.cell? ⟨w2.heap.size, 1, none⟩ = some (.slice (some ⟨g, 0, none⟩) n (n + 2)) := (hb4.cell (p := ⟨w2.heap.size, 1, none⟩) hz3').trans s1
  have H4 : Hid (Below W3.heap.size W3 w4) := hb4
  clear hb4 r0 r1 s0 s1
  go_wp2_with fail
  refine (rprint_any b ao c n ps _ (HP.out.nx (nx_trans H3.out.2.1 H4.out)) HN.out HM.out).mono ?_; rintro e w5 ⟨rfl, hb5⟩
  have hz4 : w.heap.size < w4.heap.size := Nat.lt_of_lt_of_le hz3 H4.out.size
  have hz4' : w2.heap.size < w4.heap.size := Nat.lt_of_lt_of_le hz3' H4.out.size
  have x0 : w5.cell? ⟨w.heap.size, 0, none⟩ = some (.int .i64 b) := (hb5.cell (p := ⟨w.heap.size, 0, none⟩) hz4).trans t0
  have x1 : w5.cell? ⟨w.heap.size, 1, none⟩ = some (.slice ao n c) := (hb5.cell (p := ⟨w.heap.size, 1, none⟩) hz4).trans t1
  have y0 : w5.cell? ⟨w2.heap.size, 0, none⟩ = some (.int .i64 b) := (hb5.cell (p := ⟨w2.heap.size, 0, none⟩) hz4').trans u0
  have y1 : w5.cell? ⟨w2.heap.size, 1, none⟩ = some (.slice (some ⟨g, 0, none⟩) n (n + 2)) := (hb5.cell (p := ⟨w2.heap.size, 1, none⟩) hz4').trans u1
  have H5 : Hid (Below W3.heap.size W3 w5) := nx_trans H4.out hb5
  clear hb5 t0 t1 u0 u1
  go_wp2_with fail
  refine (still_true b g ao c n ps _ (HP.out.nx (nx_trans H3.out.2.1 H5.out)) (H3.out.2.2.1.nx H5.out) HN.out hlen).mono ?_; rintro e w6 ⟨rfl, hb6⟩
  go_wp2_with fail
  go_ret2
  exact ⟨_, rfl, nx_trans (nx_trans H3.out.2.1 H5.out) hb6⟩

set_option maxHeartbeats 400000 in
theorem prints_any (b : Int) (ao : Option Addr) (c n : Nat) (ps : List Pl) (w : World) (hps : Pools w ao ps) (hn : ps.length = n) (hlen : n * 40 ≤ 140737488351232) (ht : Tab w) :
    Calls Tryd.prog 3 #[.agg #[.int .i64 b, .slice ao n c]] w fun e w' => e = .returned (.bool true) ∧ Below w.heap.size w w' := by
  have H := hideIt (printed_any b ao c n ps (w.alloc (bTab b ao n c)) (hps.nx (nx_alloc _ _)) hn hlen (ht.nx (nx_alloc _ _)))
  clear hps hn ht
  go_enter Tryd.func3, Tryd.ntmps3
  go_wp2_with fail
  refine H.out.mono ?_; rintro e w1 ⟨s, rfl, hb1⟩
  go_wp2_with fail
  go_ret
  exact ⟨rfl, nx_trans (nx_alloc _ _) hb1⟩
end Pr
end Go.Proofs.YtfdnfopnhhfmkaaDoor
