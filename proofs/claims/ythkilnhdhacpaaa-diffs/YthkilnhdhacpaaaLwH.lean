
import Derived.Test.YthkilnhdhacpaaaLwG
namespace Go.Proofs.Ythkilnhdhacpaaa
open Go.RowKit
namespace Lw
open Co

/-- a list that is not F's, behind what has changed F's blocks and another list's -/
theorem own_past {w w' : World} {G : Nat → Prop} {ty : TypeId} {sz : Nat} {v : Value} {n : Nat} {xs : List Value} (h : w.ownsRow 0 ty sz v n xs) (hc : Chg G w w') (hd : ∀ g, v.ownBlock = some g → ¬ G g) : w'.ownsRow 0 ty sz v n xs :=
  ownG_heap h (fun j hj => hc.block j (h.lt j hj).2 (hd j hj))
theorem own_apartL {w : World} {B B' : Nat} {ty ty' : TypeId} {sz sz' : Nat} {v v' : Value} {n n' : Nat} {xs xs' : List Value} (h : w.ownsRow B ty sz v n xs) (h' : w.ownsRow B' ty' sz' v' n' xs') (hne : ty ≠ ty') : ∀ g, v.ownBlock = some g → v'.ownBlock ≠ some g := by
  intro g hg hg'
  obtain ⟨c, e⟩ := own_typed h g hg
  obtain ⟨c', e'⟩ := own_typed h' g hg'
  rw [e] at e'
  simp at e'
  exact hne e'.2
theorem plus_no {F : Nat → Prop} {src : Value} {w w' : World} {g : Nat} (h1 : ¬ F g) (h2 : src.ownBlock ≠ some g) (h3 : g < w.heap.size) : ¬ Plus F src w w' g := by
  rintro (h | h | h)
  · exact h1 h
  · exact h2 h
  · omega

end Lw
end Go.Proofs.Ythkilnhdhacpaaa
