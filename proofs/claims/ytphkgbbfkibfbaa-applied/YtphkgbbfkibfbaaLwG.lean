
import Derived.Test.YtphkgbbfkibfbaaLwE
import Derived.Test.YtphkgbbfkibfbaaLwF
namespace Go.Proofs.Ytphkgbbfkibfbaa
open Go.RowKit
namespace Lw
open Co

/-- a list of lists, each full of its mark -/
def RowsG (ty tyl : TypeId) (sz : Nat) (mk : Int → List Value) (w : World) (F : Nat → Prop) (v : Value) (q : Nat) : Prop :=
  ∃ vs, w.ownsRow 0 tyl 1 v q vs ∧ (∀ g, v.ownBlock = some g → F g) ∧ ∀ (i : Nat) (x : Value), vs[i]? = some x → FullG ty sz (mk ((i + 1 : Nat) : Int)) w x ∧ ∀ g, x.ownBlock = some g → F g
theorem RowsG.keep {ty tyl : TypeId} {sz : Nat} {mk : Int → List Value} {w w' : World} {F F' : Nat → Prop} {v : Value} {q : Nat} (h : RowsG ty tyl sz mk w F v q) (hh : ∀ g, F g → w'.heap[g]? = w.heap[g]?) (hF : ∀ g, F g → F' g) : RowsG ty tyl sz mk w' F' v q := by
  obtain ⟨vs, h1, h2, h3⟩ := h
  refine ⟨vs, ownG_heap h1 (fun j hj => hh j (h2 j hj)), fun g hg => hF g (h2 g hg), fun i x hx => ?_⟩
  exact ⟨(h3 i x hx).1.keep (fun g hg => hh g ((h3 i x hx).2 g hg)), fun g hg => hF g ((h3 i x hx).2 g hg)⟩
/-- a list of lists of another type is kept, whatever becomes of blocks that are not its own -/
theorem RowsG.keep' {ty tyl : TypeId} {sz : Nat} {mk : Int → List Value} {w w' : World} {F F' : Nat → Prop} {v : Value} {q : Nat} (h : RowsG ty tyl sz mk w F v q) (hh : ∀ g cur t, F g → w.heap[g]? = some (.cells cur t (0, 0)) → (t = ty ∨ t = tyl) → w'.heap[g]? = w.heap[g]?) (hF : ∀ g, F g → F' g) : RowsG ty tyl sz mk w' F' v q := by
  obtain ⟨vs, h1, h2, h3⟩ := h
  refine ⟨vs, ownG_heap h1 (fun j hj => ?_), fun g hg => hF g (h2 g hg), fun i x hx => ?_⟩
  · obtain ⟨cur, hc⟩ := own_typed h1 j hj
    exact hh j cur tyl (h2 j hj) hc (.inr rfl)
  · refine ⟨(h3 i x hx).1.keep (fun g hg => ?_), fun g hg => hF g ((h3 i x hx).2 g hg)⟩
    rcases (h3 i x hx).1 with e | ⟨g', cap, cur, e, _, hc, _⟩
    · rw [e] at hg; simp [Value.ownBlock] at hg
    · have : g' = g := by rw [e] at hg; simpa [Value.ownBlock] using hg
      subst this
      exact hh g' cur ty ((h3 i x hx).2 g' hg) hc (.inl rfl)
abbrev RowsP (w : World) (F : Nat → Prop) (v : Value) (q : Nat) : Prop := RowsG 37 22 4 mP w F v q
abbrev RowsT (w : World) (F : Nat → Prop) (v : Value) (q : Nat) : Prop := RowsG 31 26 3 mT w F v q
/-- F, a list's block, and what is new -/
def Plus (F : Nat → Prop) (src : Value) (w w' : World) : Nat → Prop := fun y => F y ∨ src.ownBlock = some y ∨ (w.heap.size ≤ y ∧ y < w'.heap.size)
end Lw
end Go.Proofs.Ytphkgbbfkibfbaa
