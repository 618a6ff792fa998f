import Derived.Test.YtmmmjpkhnbfnbaaGreatMgT
import Derived.Deep.RegionHeld3
import Derived.Lib.OwnKind
import Derived.Test.YtmmmjpkhnbfnbaaGreatMgI
namespace Go.Proofs.YtmmmjpkhnbfnbaaGreat
open Go.RowKit
namespace Lw
open Co

abbrev bWd (c0 c1 c2 c3 c4 c5 c6 c7 c8 c9 : Value) : Obj := .cells #[c0, c1, c2, c3, c4, c5, c6, c7, c8, c9] 38
abbrev zW : Obj := bWd (.int .i64 0) (.slice none 0 0) (.slice none 0 0) (.slice none 0 0) (.slice none 0 0) (.bool false) (.bool false) (.int .i64 0) (.int .i64 0) (.slice none 0 0)
theorem blk10 {w : World} {g : Nat} {c0 c1 c2 c3 c4 c5 c6 c7 c8 c9 : Value} {t : TypeId} (h : w.heap[g]? = some (.cells #[c0, c1, c2, c3, c4, c5, c6, c7, c8, c9] t (0, 0))) :
    w.cell? ⟨g, 0, none⟩ = some c0 ∧ w.cell? ⟨g, 1, none⟩ = some c1 ∧ w.cell? ⟨g, 2, none⟩ = some c2 ∧ w.cell? ⟨g, 3, none⟩ = some c3 ∧ w.cell? ⟨g, 4, none⟩ = some c4 ∧ w.cell? ⟨g, 5, none⟩ = some c5 ∧ w.cell? ⟨g, 6, none⟩ = some c6 ∧ w.cell? ⟨g, 7, none⟩ = some c7 ∧ w.cell? ⟨g, 8, none⟩ = some c8 ∧ w.cell? ⟨g, 9, none⟩ = some c9 ∧ ∀ a, w.frozen? ⟨g, a, none⟩ = false := by
  refine ⟨?_, ?_, ?_, ?_, ?_, ?_, ?_, ?_, ?_, ?_, fun a => ?_⟩ <;> simp [World.cell?, World.frozen?, h]
theorem blk_nx {u v : World} {g : Nat} {o : Obj} (h : u.heap[g]? = some o) (hb : Below u.heap.size u v) : v.heap[g]? = some o := (hb.block g (Array.getElem?_eq_some_iff.1 h).1).trans h
theorem blk_chg {F : Nat → Prop} {u v : World} {g : Nat} {o : Obj} (h : u.heap[g]? = some o) (hc : Chg F u v) (hF : ¬ F g) : v.heap[g]? = some o := (hc.block g (Array.getElem?_eq_some_iff.1 h).1 hF).trans h
theorem row_chg {F : Nat → Prop} {u v : World} {x : Value} {n : Nat} {cs : List Value} (h : RowAt u x n cs) (hc : Chg F u v) (hF : ∀ g, (∃ o, x.ownBlock = some o ∧ o = g) ∨ (∃ a off c, x = .slice (some ⟨g, off, a⟩) n c) → ¬ F g) : RowAt v x n cs := by
  obtain ⟨ao, cap, rfl, hcap, hh⟩ := h
  refine ⟨ao, cap, rfl, hcap, ?_⟩
  rcases hh with hh | ⟨b, off, e, hb, hx⟩
  · exact .inl hh
  · subst e
    refine .inr ⟨b, off, rfl, Nat.lt_of_lt_of_le hb hc.size, fun j y hy => ?_⟩
    rw [World.cell?_of_block (hc.block b hb (hF b (.inr ⟨none, off, cap, rfl⟩)))]
    exact hx j y hy
/-- what a round of 'out.f = append(out.f, x)' leaves, as to blocks -/
theorem rnd_low {u wr w6 : World} {g3 : Nat} {o : Obj} {v : Value} {e : TypeId} {sz n : Nat} {xs : List Value} (hc : Chg (fun y => y = g3) u wr) (hown : wr.ownsRow u.heap.size e sz v n xs) (hg : (wr.alloc o).grownBy w6 v.ownBlock) :
    ∀ b, b < u.heap.size → w6.heap[b]? = wr.heap[b]? := by
  intro b hb
  have := hc.size
  refine (hg.block b (by simp; omega) ?_).trans (heap_alloc_lt' _ _ (by omega))
  intro e
  have := (hown.lt b e.symm).1
  omega
theorem rnd_chg {u wr w6 : World} {g3 j : Nat} {o : Obj} {v v' : Value} {e : TypeId} {sz n : Nat} {xs : List Value} (hc : Chg (fun y => y = g3) u wr) (hown : wr.ownsRow u.heap.size e sz v n xs) (hg : (wr.alloc o).grownBy w6 v.ownBlock) :
    Chg (fun y => y = g3) u (w6.setCell ⟨g3, j, none⟩ v') := by
  have hl := rnd_low hc hown hg
  have hz := hg.size
  have hs := hc.size
  have hB : Below 0 wr w6 := ((Below.refl 0 wr).alloc (Nat.zero_le _) o).grown hg (Nat.zero_le _) (fun _ _ => Nat.zero_le _)
  refine ⟨?_, ?_, ?_, ?_, fun b hb hne => ?_⟩
  · exact ((hB.setCell (Nat.zero_le (⟨g3, j, none⟩ : Addr).block) v').os).trans hc.os
  · exact ((hB.setCell (Nat.zero_le (⟨g3, j, none⟩ : Addr).block) v').tape).trans hc.tape
  · exact ((hB.setCell (Nat.zero_le (⟨g3, j, none⟩ : Addr).block) v').output).trans hc.output
  · simp at hz ⊢; omega
  · exact (Below.heap_setCell _ _ _ _ hne).trans ((hl b hb).trans (hc.block b hb hne))
end Lw
end Go.Proofs.YtmmmjpkhnbfnbaaGreat
namespace Go.Proofs.YtmmmjpkhnbfnbaaGreat
open Go.RowKit
namespace Lw
open Co

/-- ten cells written -/
abbrev st10 (w : World) (g : Nat) (v0 v1 v2 v3 v4 v5 v6 v7 v8 v9 : Value) : World := ((((((((((w.setCell ⟨g, 0, none⟩ v0).setCell ⟨g, 1, none⟩ v1).setCell ⟨g, 2, none⟩ v2).setCell ⟨g, 3, none⟩ v3).setCell ⟨g, 4, none⟩ v4).setCell ⟨g, 5, none⟩ v5).setCell ⟨g, 6, none⟩ v6).setCell ⟨g, 7, none⟩ v7).setCell ⟨g, 8, none⟩ v8).setCell ⟨g, 9, none⟩ v9)
theorem set10_0 {w : World} {g : Nat} {c0 c1 c2 c3 c4 c5 c6 c7 c8 c9 : Value} {t : TypeId} (h : w.heap[g]? = some (.cells #[c0, c1, c2, c3, c4, c5, c6, c7, c8, c9] t (0, 0))) (v : Value) : (w.setCell ⟨g, 0, none⟩ v).heap[g]? = some (.cells #[v, c1, c2, c3, c4, c5, c6, c7, c8, c9] t (0, 0)) := set_heap _ _ _ _ _ _ h
theorem set10_1 {w : World} {g : Nat} {c0 c1 c2 c3 c4 c5 c6 c7 c8 c9 : Value} {t : TypeId} (h : w.heap[g]? = some (.cells #[c0, c1, c2, c3, c4, c5, c6, c7, c8, c9] t (0, 0))) (v : Value) : (w.setCell ⟨g, 1, none⟩ v).heap[g]? = some (.cells #[c0, v, c2, c3, c4, c5, c6, c7, c8, c9] t (0, 0)) := set_heap _ _ _ _ _ _ h
theorem set10_2 {w : World} {g : Nat} {c0 c1 c2 c3 c4 c5 c6 c7 c8 c9 : Value} {t : TypeId} (h : w.heap[g]? = some (.cells #[c0, c1, c2, c3, c4, c5, c6, c7, c8, c9] t (0, 0))) (v : Value) : (w.setCell ⟨g, 2, none⟩ v).heap[g]? = some (.cells #[c0, c1, v, c3, c4, c5, c6, c7, c8, c9] t (0, 0)) := set_heap _ _ _ _ _ _ h
theorem set10_3 {w : World} {g : Nat} {c0 c1 c2 c3 c4 c5 c6 c7 c8 c9 : Value} {t : TypeId} (h : w.heap[g]? = some (.cells #[c0, c1, c2, c3, c4, c5, c6, c7, c8, c9] t (0, 0))) (v : Value) : (w.setCell ⟨g, 3, none⟩ v).heap[g]? = some (.cells #[c0, c1, c2, v, c4, c5, c6, c7, c8, c9] t (0, 0)) := set_heap _ _ _ _ _ _ h
theorem set10_4 {w : World} {g : Nat} {c0 c1 c2 c3 c4 c5 c6 c7 c8 c9 : Value} {t : TypeId} (h : w.heap[g]? = some (.cells #[c0, c1, c2, c3, c4, c5, c6, c7, c8, c9] t (0, 0))) (v : Value) : (w.setCell ⟨g, 4, none⟩ v).heap[g]? = some (.cells #[c0, c1, c2, c3, v, c5, c6, c7, c8, c9] t (0, 0)) := set_heap _ _ _ _ _ _ h
theorem set10_5 {w : World} {g : Nat} {c0 c1 c2 c3 c4 c5 c6 c7 c8 c9 : Value} {t : TypeId} (h : w.heap[g]? = some (.cells #[c0, c1, c2, c3, c4, c5, c6, c7, c8, c9] t (0, 0))) (v : Value) : (w.setCell ⟨g, 5, none⟩ v).heap[g]? = some (.cells #[c0, c1, c2, c3, c4, v, c6, c7, c8, c9] t (0, 0)) := set_heap _ _ _ _ _ _ h
theorem set10_6 {w : World} {g : Nat} {c0 c1 c2 c3 c4 c5 c6 c7 c8 c9 : Value} {t : TypeId} (h : w.heap[g]? = some (.cells #[c0, c1, c2, c3, c4, c5, c6, c7, c8, c9] t (0, 0))) (v : Value) : (w.setCell ⟨g, 6, none⟩ v).heap[g]? = some (.cells #[c0, c1, c2, c3, c4, c5, v, c7, c8, c9] t (0, 0)) := set_heap _ _ _ _ _ _ h
theorem set10_7 {w : World} {g : Nat} {c0 c1 c2 c3 c4 c5 c6 c7 c8 c9 : Value} {t : TypeId} (h : w.heap[g]? = some (.cells #[c0, c1, c2, c3, c4, c5, c6, c7, c8, c9] t (0, 0))) (v : Value) : (w.setCell ⟨g, 7, none⟩ v).heap[g]? = some (.cells #[c0, c1, c2, c3, c4, c5, c6, v, c8, c9] t (0, 0)) := set_heap _ _ _ _ _ _ h
theorem set10_8 {w : World} {g : Nat} {c0 c1 c2 c3 c4 c5 c6 c7 c8 c9 : Value} {t : TypeId} (h : w.heap[g]? = some (.cells #[c0, c1, c2, c3, c4, c5, c6, c7, c8, c9] t (0, 0))) (v : Value) : (w.setCell ⟨g, 8, none⟩ v).heap[g]? = some (.cells #[c0, c1, c2, c3, c4, c5, c6, c7, v, c9] t (0, 0)) := set_heap _ _ _ _ _ _ h
theorem set10_9 {w : World} {g : Nat} {c0 c1 c2 c3 c4 c5 c6 c7 c8 c9 : Value} {t : TypeId} (h : w.heap[g]? = some (.cells #[c0, c1, c2, c3, c4, c5, c6, c7, c8, c9] t (0, 0))) (v : Value) : (w.setCell ⟨g, 9, none⟩ v).heap[g]? = some (.cells #[c0, c1, c2, c3, c4, c5, c6, c7, c8, v] t (0, 0)) := set_heap _ _ _ _ _ _ h
theorem st10_heap {w : World} {g : Nat} {c0 c1 c2 c3 c4 c5 c6 c7 c8 c9 : Value} {t : TypeId} (h : w.heap[g]? = some (.cells #[c0, c1, c2, c3, c4, c5, c6, c7, c8, c9] t (0, 0))) (v0 v1 v2 v3 v4 v5 v6 v7 v8 v9 : Value) : (st10 w g v0 v1 v2 v3 v4 v5 v6 v7 v8 v9).heap[g]? = some (.cells #[v0, v1, v2, v3, v4, v5, v6, v7, v8, v9] t (0, 0)) :=
  set10_9 (set10_8 (set10_7 (set10_6 (set10_5 (set10_4 (set10_3 (set10_2 (set10_1 (set10_0 h v0) v1) v2) v3) v4) v5) v6) v7) v8) v9
theorem st10_low (w : World) (g : Nat) (v0 v1 v2 v3 v4 v5 v6 v7 v8 v9 : Value) {b : Nat} (hb : b ≠ g) : (st10 w g v0 v1 v2 v3 v4 v5 v6 v7 v8 v9).heap[b]? = w.heap[b]? := by
  unfold st10
  simp only [Below.heap_setCell _ (⟨g, _, none⟩ : Addr) _ b hb]
theorem st10_bel {B : Nat} {a w : World} (h : Below B a w) {g : Nat} (hg : B ≤ g) (v0 v1 v2 v3 v4 v5 v6 v7 v8 v9 : Value) : Below B a (st10 w g v0 v1 v2 v3 v4 v5 v6 v7 v8 v9) := by
  exact (((((((((h.setCell hg _).setCell hg _).setCell hg _).setCell hg _).setCell hg _).setCell hg _).setCell hg _).setCell hg _).setCell hg _).setCell hg _
theorem own_ne10 {u : World} {B : Nat} {e : TypeId} {sz n g : Nat} {v : Value} {xs : List Value} {cs : Array Value} {t : TypeId} (h : u.ownsRow B e sz v n xs) (hg : u.heap[g]? = some (.cells cs t (0, 0))) (ht : e ≠ t) : v.ownBlock ≠ some g := by
  intro hv
  obtain ⟨cc, fz, hh⟩ := Go.Lib.ownsRow_kind h g hv
  rw [hg] at hh
  simp at hh
  exact ht hh.2.1.symm
theorem own_st10 {u : World} {B : Nat} {e : TypeId} {sz n g : Nat} {v : Value} {xs : List Value} (h : u.ownsRow B e sz v n xs) (hne : v.ownBlock ≠ some g) (v0 v1 v2 v3 v4 v5 v6 v7 v8 v9 : Value) : (st10 u g v0 v1 v2 v3 v4 v5 v6 v7 v8 v9).ownsRow B e sz v n xs :=
  ownG_heap h (fun j hj => st10_low u g v0 v1 v2 v3 v4 v5 v6 v7 v8 v9 (fun e => hne (by rw [← e]; exact hj)))
theorem own_chg {u v : World} {B : Nat} {e : TypeId} {sz n g : Nat} {x : Value} {xs : List Value} (h : u.ownsRow B e sz x n xs) (hc : Chg (fun y => y = g) u v) (hne : x.ownBlock ≠ some g) : v.ownsRow B e sz x n xs :=
  ownG_heap h (fun j hj => hc.block j (h.lt j hj).2 (fun e => hne (by rw [← e]; exact hj)))
theorem own_set1 {u : World} {B : Nat} {e : TypeId} {sz n g a : Nat} {x y : Value} {xs : List Value} (h : u.ownsRow B e sz x n xs) (hne : x.ownBlock ≠ some g) : (u.setCell ⟨g, a, none⟩ y).ownsRow B e sz x n xs :=
  ownG_heap h (fun j hj => Below.heap_setCell _ _ _ _ (fun e => hne (by rw [← show j = g from e]; exact hj)))
theorem infr_V : (Tryz.prog.info? 74).map (fun i => (i.zero, i.size, i.bytes)) = some (some (.agg #[.int .i64 0, .string ⟨#[]⟩, .int .i64 0, .int .i64 0]), 4, 40) := by kernel_rfl
theorem infr_W : (Tryz.prog.info? 76).map (fun i => (i.zero, i.size, i.bytes)) = some (some (.agg #[.int .i64 0, .string ⟨#[]⟩]), 2, 24) := by kernel_rfl
theorem infr_T : (Tryz.prog.info? 72).map (fun i => (i.zero, i.size, i.bytes)) = some (some (.agg #[.int .i64 0, .string ⟨#[]⟩, .int .i64 0]), 3, 32) := by kernel_rfl
theorem Chg.drew {F : Nat → Prop} {u v : World} (h : Chg F u v) : Chg F u v.drew := ⟨h.os, h.tape, h.output, h.size, h.block⟩
/-- what the region reads, in whatever world has kept all but the list's own block -/
theorem rk {U wr w1 : World} {g3 : Nat} {e : TypeId} {sz n : Nat} {v : Value} {xs : List Value} (hc : Chg (fun y => y = g3) U wr) (hown : wr.ownsRow U.heap.size e sz v n xs) (hw : ∀ b, b < wr.heap.size → some b ≠ v.ownBlock → w1.heap[b]? = wr.heap[b]?) : ∀ b, b < U.heap.size → w1.heap[b]? = wr.heap[b]? := by
  intro b hb
  refine hw b (Nat.lt_of_lt_of_le hb hc.size) (fun e => ?_)
  have := (hown.lt b e.symm).1
  omega
/-- a copy in progress: where it came from, the result's box, the box that is filled -/
structure CP (w : World) (src : Obj) (g3 : Nat) (d : Obj) (u : World) : Prop where
  h0 : u.heap[w.heap.size]? = some src
  h1 : u.heap[w.heap.size + 1]? = some zW
  h2 : u.heap[g3]? = some d
  bel : Below w.heap.size w u
  lo : w.heap.size + 2 ≤ g3
theorem CP.chg {w : World} {src : Obj} {g3 : Nat} {d d' : Obj} {u v : World} (h : CP w src g3 d u) (hc : Chg (fun y => y = g3) u v) (h2 : v.heap[g3]? = some d') : CP w src g3 d' v := by
  have hl := h.lo
  refine ⟨blk_chg h.h0 hc (by omega), blk_chg h.h1 hc (by omega), h2, ?_, hl⟩
  exact h.bel.trans (hc.below h.bel.size (fun x hx => by omega))
end Lw
end Go.Proofs.YtmmmjpkhnbfnbaaGreat
