
import Derived.Test.YthkilnhdhacpaaaCoO
namespace Go.Proofs.Ythkilnhdhacpaaa
open Go.RowKit
namespace Co

def poolC (ls : List (Ln × Value)) (l : Ln) : Pl :=
  ⟨l.name, valOf 0 1 l.sets (chn ls 7 l.frm), valOf 1 0 l.sets (chn ls 7 l.frm), valOf 2 0 l.sets (chn ls 7 l.frm)⟩
/-- the cells of a block of four, behind a call -/
theorem blk4 {W w3 : World} {B : Nat} (hb : Below B W w3) {g : Nat} (hg : g < B) {c0 c1 c2 c3 : Value} {t : TypeId} (h : W.heap[g]? = some (.cells #[c0, c1, c2, c3] t (0, 0))) :
    w3.cell? ⟨g, 0, none⟩ = some c0 ∧ w3.cell? ⟨g, 1, none⟩ = some c1 ∧ w3.cell? ⟨g, 2, none⟩ = some c2 ∧ w3.cell? ⟨g, 3, none⟩ = some c3 ∧ ∀ a, w3.frozen? ⟨g, a, none⟩ = false := by
  have h' : w3.heap[g]? = some (.cells #[c0, c1, c2, c3] t (0, 0)) := (hb.block g hg).trans h
  refine ⟨?_, ?_, ?_, ?_, fun a => ?_⟩ <;> simp [World.cell?, World.frozen?, h']
theorem blk5 {W w3 : World} {B : Nat} (hb : Below B W w3) {g : Nat} (hg : g < B) {c0 c1 c2 c3 c4 : Value} {t : TypeId} (h : W.heap[g]? = some (.cells #[c0, c1, c2, c3, c4] t (0, 0))) :
    w3.cell? ⟨g, 0, none⟩ = some c0 ∧ w3.cell? ⟨g, 1, none⟩ = some c1 ∧ w3.cell? ⟨g, 2, none⟩ = some c2 ∧ w3.cell? ⟨g, 3, none⟩ = some c3 ∧ w3.cell? ⟨g, 4, none⟩ = some c4 := by
  have h' : w3.heap[g]? = some (.cells #[c0, c1, c2, c3, c4] t (0, 0)) := (hb.block g hg).trans h
  refine ⟨?_, ?_, ?_, ?_, ?_⟩ <;> simp [World.cell?, h']
theorem set_heap (w : World) (g a : Nat) (v : Value) (cur : Array Value) (t : TypeId) (h : w.heap[g]? = some (.cells cur t (0, 0))) : (w.setCell ⟨g, a, none⟩ v).heap[g]? = some (.cells (cur.setIfInBounds a v) t (0, 0)) := by
  rw [setCell_eq_setRow w g a cur t (0, 0) v h]
  exact setRow_heap w g _ _ t _ h

end Co
end Go.Proofs.Ythkilnhdhacpaaa
