
import Derived.Test.YtlndoeoniicijaaCdC
import Derived.Test.YtlndoeoniicijaaCpE
namespace Go.Proofs.Ytlndoeoniicijaa
open Go.RowKit
namespace Lw
open Co

abbrev wldA (b : Int) (v1 : Value) (nx : Int) : Value := .agg #[.int .i64 b, v1, .slice none 0 0, .slice none 0 0, .slice none 0 0, .bool false, .bool false, .int .i64 nx, .int .i64 0, .slice none 0 0]
abbrev bWld (b : Int) (v1 : Value) (nx : Int) : Obj := .cells #[.int .i64 b, v1, .slice none 0 0, .slice none 0 0, .slice none 0 0, .bool false, .bool false, .int .i64 nx, .int .i64 0, .slice none 0 0] 35
theorem blk10 {w : World} {g : Nat} {c0 c1 c2 c3 c4 c5 c6 c7 c8 c9 : Value} {t : TypeId} (h : w.heap[g]? = some (.cells #[c0, c1, c2, c3, c4, c5, c6, c7, c8, c9] t (0, 0))) :
    w.cell? ⟨g, 0, none⟩ = some c0 ∧ w.cell? ⟨g, 1, none⟩ = some c1 ∧ w.cell? ⟨g, 2, none⟩ = some c2 ∧ w.cell? ⟨g, 3, none⟩ = some c3 ∧ w.cell? ⟨g, 4, none⟩ = some c4 ∧ w.cell? ⟨g, 5, none⟩ = some c5 ∧ w.cell? ⟨g, 6, none⟩ = some c6 ∧ w.cell? ⟨g, 7, none⟩ = some c7 ∧ w.cell? ⟨g, 8, none⟩ = some c8 ∧ w.cell? ⟨g, 9, none⟩ = some c9 ∧ ∀ a, w.frozen? ⟨g, a, none⟩ = false := by
  refine ⟨?_, ?_, ?_, ?_, ?_, ?_, ?_, ?_, ?_, ?_, fun a => ?_⟩ <;> simp [World.cell?, World.frozen?, h]
abbrev set10 (W : World) (g : Nat) (c0 c1 c2 c3 c4 c5 c6 c7 c8 c9 : Value) : World :=
  (((((((((W.setCell ⟨g, 0, none⟩ c0).setCell ⟨g, 1, none⟩ c1).setCell ⟨g, 2, none⟩ c2).setCell ⟨g, 3, none⟩ c3).setCell ⟨g, 4, none⟩ c4).setCell ⟨g, 5, none⟩ c5).setCell ⟨g, 6, none⟩ c6).setCell ⟨g, 7, none⟩ c7).setCell ⟨g, 8, none⟩ c8).setCell ⟨g, 9, none⟩ c9
theorem set10_heap (W : World) (g : Nat) (c0 c1 c2 c3 c4 c5 c6 c7 c8 c9 : Value) (j : Nat) (hj : j ≠ g) : (set10 W g c0 c1 c2 c3 c4 c5 c6 c7 c8 c9).heap[j]? = W.heap[j]? := by
  refine (Below.heap_setCell _ _ _ _ hj).trans ((Below.heap_setCell _ _ _ _ hj).trans ((Below.heap_setCell _ _ _ _ hj).trans ((Below.heap_setCell _ _ _ _ hj).trans ((Below.heap_setCell _ _ _ _ hj).trans ((Below.heap_setCell _ _ _ _ hj).trans ((Below.heap_setCell _ _ _ _ hj).trans ((Below.heap_setCell _ _ _ _ hj).trans ((Below.heap_setCell _ _ _ _ hj).trans (Below.heap_setCell _ _ _ _ hj)))))))))
theorem set10_below {B : Nat} {w0 W : World} (h : Below B w0 W) (g : Nat) (hg : B ≤ g) (c0 c1 c2 c3 c4 c5 c6 c7 c8 c9 : Value) : Below B w0 (set10 W g c0 c1 c2 c3 c4 c5 c6 c7 c8 c9) :=
  (((((((((h.setCell hg _).setCell hg _).setCell hg _).setCell hg _).setCell hg _).setCell hg _).setCell hg _).setCell hg _).setCell hg _).setCell hg _
theorem set10_self (W : World) (g : Nat) (d0 d1 d2 d3 d4 d5 d6 d7 d8 d9 c0 c1 c2 c3 c4 c5 c6 c7 c8 c9 : Value) (t : TypeId) (h : W.heap[g]? = some (.cells #[d0, d1, d2, d3, d4, d5, d6, d7, d8, d9] t (0, 0))) : (set10 W g c0 c1 c2 c3 c4 c5 c6 c7 c8 c9).heap[g]? = some (.cells #[c0, c1, c2, c3, c4, c5, c6, c7, c8, c9] t (0, 0)) := by
  have h0 : (W.setCell ⟨g, 0, none⟩ c0).heap[g]? = some (.cells #[c0, d1, d2, d3, d4, d5, d6, d7, d8, d9] t (0, 0)) := set_heap _ g 0 _ _ _ h
  have h1 : ((W.setCell ⟨g, 0, none⟩ c0).setCell ⟨g, 1, none⟩ c1).heap[g]? = some (.cells #[c0, c1, d2, d3, d4, d5, d6, d7, d8, d9] t (0, 0)) := set_heap _ g 1 _ _ _ h0
  have h2 : (((W.setCell ⟨g, 0, none⟩ c0).setCell ⟨g, 1, none⟩ c1).setCell ⟨g, 2, none⟩ c2).heap[g]? = some (.cells #[c0, c1, c2, d3, d4, d5, d6, d7, d8, d9] t (0, 0)) := set_heap _ g 2 _ _ _ h1
  have h3 : ((((W.setCell ⟨g, 0, none⟩ c0).setCell ⟨g, 1, none⟩ c1).setCell ⟨g, 2, none⟩ c2).setCell ⟨g, 3, none⟩ c3).heap[g]? = some (.cells #[c0, c1, c2, c3, d4, d5, d6, d7, d8, d9] t (0, 0)) := set_heap _ g 3 _ _ _ h2
  have h4 : (((((W.setCell ⟨g, 0, none⟩ c0).setCell ⟨g, 1, none⟩ c1).setCell ⟨g, 2, none⟩ c2).setCell ⟨g, 3, none⟩ c3).setCell ⟨g, 4, none⟩ c4).heap[g]? = some (.cells #[c0, c1, c2, c3, c4, d5, d6, d7, d8, d9] t (0, 0)) := set_heap _ g 4 _ _ _ h3
  have h5 : ((((((W.setCell ⟨g, 0, none⟩ c0).setCell ⟨g, 1, none⟩ c1).setCell ⟨g, 2, none⟩ c2).setCell ⟨g, 3, none⟩ c3).setCell ⟨g, 4, none⟩ c4).setCell ⟨g, 5, none⟩ c5).heap[g]? = some (.cells #[c0, c1, c2, c3, c4, c5, d6, d7, d8, d9] t (0, 0)) := set_heap _ g 5 _ _ _ h4
  have h6 : (((((((W.setCell ⟨g, 0, none⟩ c0).setCell ⟨g, 1, none⟩ c1).setCell ⟨g, 2, none⟩ c2).setCell ⟨g, 3, none⟩ c3).setCell ⟨g, 4, none⟩ c4).setCell ⟨g, 5, none⟩ c5).setCell ⟨g, 6, none⟩ c6).heap[g]? = some (.cells #[c0, c1, c2, c3, c4, c5, c6, d7, d8, d9] t (0, 0)) := set_heap _ g 6 _ _ _ h5
  have h7 : ((((((((W.setCell ⟨g, 0, none⟩ c0).setCell ⟨g, 1, none⟩ c1).setCell ⟨g, 2, none⟩ c2).setCell ⟨g, 3, none⟩ c3).setCell ⟨g, 4, none⟩ c4).setCell ⟨g, 5, none⟩ c5).setCell ⟨g, 6, none⟩ c6).setCell ⟨g, 7, none⟩ c7).heap[g]? = some (.cells #[c0, c1, c2, c3, c4, c5, c6, c7, d8, d9] t (0, 0)) := set_heap _ g 7 _ _ _ h6
  have h8 : (((((((((W.setCell ⟨g, 0, none⟩ c0).setCell ⟨g, 1, none⟩ c1).setCell ⟨g, 2, none⟩ c2).setCell ⟨g, 3, none⟩ c3).setCell ⟨g, 4, none⟩ c4).setCell ⟨g, 5, none⟩ c5).setCell ⟨g, 6, none⟩ c6).setCell ⟨g, 7, none⟩ c7).setCell ⟨g, 8, none⟩ c8).heap[g]? = some (.cells #[c0, c1, c2, c3, c4, c5, c6, c7, c8, d9] t (0, 0)) := set_heap _ g 8 _ _ _ h7
  have h9 : ((((((((((W.setCell ⟨g, 0, none⟩ c0).setCell ⟨g, 1, none⟩ c1).setCell ⟨g, 2, none⟩ c2).setCell ⟨g, 3, none⟩ c3).setCell ⟨g, 4, none⟩ c4).setCell ⟨g, 5, none⟩ c5).setCell ⟨g, 6, none⟩ c6).setCell ⟨g, 7, none⟩ c7).setCell ⟨g, 8, none⟩ c8).setCell ⟨g, 9, none⟩ c9).heap[g]? = some (.cells #[c0, c1, c2, c3, c4, c5, c6, c7, c8, c9] t (0, 0)) := set_heap _ g 9 _ _ _ h8
  exact h9
/-- what the reference's New answers -/
def RNewG (a : Ans) (w w' : World) (e : Ending) : Prop :=
  ∃ vo vc nx, e = .returned (.tuple #[wldA a.tab.1 (.slice vo a.tab.2.length vc) nx, .int .i64 a.err, .int .i64 a.at']) ∧ w'.ownsRow w.heap.size 77 4 (.slice vo a.tab.2.length vc) a.tab.2.length (flatP a.tab.2) ∧ Below w.heap.size w w'

set_option maxRecDepth 20000 in
set_option maxHeartbeats 2000000 in
theorem rnew_any (s : ByteArray) (w : World) (hs : s.size ≤ maxLen) :
    Calls Try.prog 7 #[.string s] w fun e w' => RNewG (ans s) w w' e := by
  have HC := hideIt (rcompile_any s (w.alloc (bWld 0 (.slice none 0 0) 0)) hs)
  have HBAD := hideIt (ans_bad s)
  have HOK := hideIt (ans_ok s)
  obtain ⟨⟨⟨b, ps⟩, er, pl⟩, ha⟩ : ∃ a, ans s = a := ⟨_, rfl⟩
  rw [ha] at HC HBAD HOK ⊢
  simp only at HBAD HOK
  unfold maxLen at hs
  clear ha
  go_enter Try.func7, Try.ntmps7
  go_wp2_with fail
  refine HC.out.mono ?_
  rintro e w1 ⟨vo, vc, rfl, hown, hb1⟩
  simp only at hown ⊢
  obtain ⟨m, hm⟩ : ∃ m, ps.length = m := ⟨_, rfl⟩
  rw [hm] at hown ⊢
  have hz : w1.heap[w.heap.size]? = some (bWld 0 (.slice none 0 0) 0) := (hb1.block _ (by simp)).trans (heap_alloc_at _ _ rfl)
  have hlt : w.heap.size < w1.heap.size := sz_lt hb1
  have K1 : Hid (w1.ownsRow (w.heap.size + 1) 77 4 (.slice vo m vc) m (flatP ps) ∧ Below w.heap.size w w1 ∧ ps.length = m) := ⟨by simpa using hown, nx_trans (nx_alloc _ _) hb1, hm⟩
  obtain ⟨y0, y1, y2, y3, y4, y5, y6, y7, y8, y9, yz⟩ := blk10 hz
  by_cases her : er = 0
  · have hpl : pl = 0 := HOK.out her
    subst her hpl
    obtain ⟨FW, hFW⟩ : ∃ FW, FW = (set10 w1 w.heap.size (.int .i64 b) (.slice vo m vc) (.slice none 0 0) (.slice none 0 0) (.slice none 0 0) (.bool false) (.bool false) (.int .i64 1) (.int .i64 0) (.slice none 0 0)).alloc (bTab b (.slice vo m vc)) := ⟨_, rfl⟩
    have hFz : FW.heap[w.heap.size]? = some (bWld b (.slice vo m vc) 1) := by
      rw [hFW]
      exact (heap_alloc_lt _ _ (by simpa using hlt)).trans (set10_self w1 _ _ _ _ _ _ _ _ _ _ _ _ _ _ _ _ _ _ _ _ _ _ hz)
    have KF : Hid (FW = (set10 w1 w.heap.size (.int .i64 b) (.slice vo m vc) (.slice none 0 0) (.slice none 0 0) (.slice none 0 0) (.bool false) (.bool false) (.int .i64 1) (.int .i64 0) (.slice none 0 0)).alloc (bTab b (.slice vo m vc)) ∧ Below w.heap.size w FW) := by
      refine ⟨hFW, ?_⟩
      rw [hFW]
      exact (set10_below K1.out.2.1 _ (Nat.le_refl _) _ _ _ _ _ _ _ _ _ _).alloc (by simpa using Nat.le_of_lt hlt) _
    obtain ⟨z0, z1, z2, z3, z4, z5, z6, z7, z8, z9, zz⟩ := blk10 hFz
    clear hown hb1 hm HC hz hFW hFz
    go_wp2_with fail
    rw [← KF.out.1]
    clear y0 y1 y2 y3 y4 y5 y6 y7 y8 y9 yz
    refine bodyPost_ret (v := .tuple #[wldA b (.slice vo m vc) 1, .int .i64 0, .int .i64 0]) (by simp [results, Try.results7, go_sem, z0, z1, z2, z3, z4, z5, z6, z7, z8, z9]) rfl ?_
    refine ⟨vo, vc, 1, ?_, ?_, KF.out.2⟩
    · simp only [K1.out.2.2]; rfl
    · simp only [K1.out.2.2]
      rw [KF.out.1]
      exact own_mono ((ownG_heap K1.out.1 (fun j hj => set10_heap _ _ _ _ _ _ _ _ _ _ _ _ j (by have := (K1.out.1.lt j hj).1; omega))).alloc _) (by omega)
  · have herb : ((er : Int) != 0) = true := by rw [bne_iff_ne]; omega
    obtain ⟨rfl, rfl⟩ : b = 0 ∧ ps = [] := by have := HBAD.out her; simpa using this
    have hm0 : m = 0 := by rw [← hm]; rfl
    subst hm0
    obtain ⟨FW, hFW⟩ : ∃ FW, FW = (set10 w1 w.heap.size (.int .i64 0) (.slice none 0 0) (.slice none 0 0) (.slice none 0 0) (.slice none 0 0) (.bool false) (.bool false) (.int .i64 0) (.int .i64 0) (.slice none 0 0)).alloc (bTab 0 (.slice vo 0 vc)) := ⟨_, rfl⟩
    have hFz : FW.heap[w.heap.size]? = some (bWld 0 (.slice none 0 0) 0) := by
      rw [hFW]
      exact (heap_alloc_lt _ _ (by simpa using hlt)).trans (set10_self w1 _ _ _ _ _ _ _ _ _ _ _ _ _ _ _ _ _ _ _ _ _ _ hz)
    have KF : Hid (FW = (set10 w1 w.heap.size (.int .i64 0) (.slice none 0 0) (.slice none 0 0) (.slice none 0 0) (.slice none 0 0) (.bool false) (.bool false) (.int .i64 0) (.int .i64 0) (.slice none 0 0)).alloc (bTab 0 (.slice vo 0 vc)) ∧ Below w.heap.size w FW) := by
      refine ⟨hFW, ?_⟩
      rw [hFW]
      exact (set10_below K1.out.2.1 _ (Nat.le_refl _) _ _ _ _ _ _ _ _ _ _).alloc (by simpa using Nat.le_of_lt hlt) _
    obtain ⟨z0, z1, z2, z3, z4, z5, z6, z7, z8, z9, zz⟩ := blk10 hFz
    clear hown hb1 HC hz her hm hFW hFz
    go_wp2_with fail
    rw [← KF.out.1]
    clear y0 y1 y2 y3 y4 y5 y6 y7 y8 y9 yz
    refine bodyPost_ret (v := .tuple #[wldA 0 (.slice none 0 0) 0, .int .i64 er, .int .i64 pl]) (by simp [results, Try.results7, go_sem, z0, z1, z2, z3, z4, z5, z6, z7, z8, z9]) rfl ?_
    exact ⟨none, 0, 0, rfl, World.ownsRow_nil _ _ _ _, KF.out.2⟩
end Lw
end Go.Proofs.Ytlndoeoniicijaa
