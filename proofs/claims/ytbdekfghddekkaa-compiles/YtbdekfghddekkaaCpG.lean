
import Derived.Test.YtbdekfghddekkaaCpF
namespace Go.Proofs.Ytbdekfghddekkaa
open Go.RowKit
namespace Co

abbrev bOwn (v : Value) : Obj := .cells #[v, .slice none 0 0, .slice none 0 0, .slice none 0 0] 28
/-- the first so many elements of a block bear the mark -/
def Marked (cur : Array Value) (k : Nat) (far : Int) : Prop := ∀ j, j < k → cur[j * 4]? = some (.string ⟨#[]⟩) ∧ cur[j * 4 + 1]? = some (.int .i64 0) ∧ cur[j * 4 + 2]? = some (.int .i64 0) ∧ cur[j * 4 + 3]? = some (.int .i64 far)
def Full (w : World) (v : Value) (far : Int) : Prop := v = .slice none 0 0 ∨ ∃ g cap cur, v = .slice (some ⟨g, 0, none⟩) cap cap ∧ w.heap[g]? = some (.cells cur 42 (0, 0)) ∧ Marked cur cap far
theorem info_pools : (Try.prog.info? 29).map (fun i => (i.zero, i.size, i.bytes)) = some (some (.slice none 0 0), 1, 24) := by kernel_rfl
theorem marked_next {cur : Array Value} {k cap : Nat} {far : Int} (h : Marked cur k far) (hc : cur.size = cap * 4) (hk : k < cap) :
    Marked ((((cur.setIfInBounds (k * 4) (.string ⟨#[]⟩)).setIfInBounds (k * 4 + 1) (.int .i64 0)).setIfInBounds (k * 4 + 2) (.int .i64 0)).setIfInBounds (k * 4 + 3) (.int .i64 far)) (k + 1) far := by
  intro j hj
  have hsz : k * 4 + 3 < cur.size := by omega
  by_cases hjk : j < k
  · obtain ⟨a, b, c, d⟩ := h j hjk
    have e : ∀ i, i < k * 4 → ((((cur.setIfInBounds (k * 4) (.string ⟨#[]⟩)).setIfInBounds (k * 4 + 1) (.int .i64 0)).setIfInBounds (k * 4 + 2) (.int .i64 0)).setIfInBounds (k * 4 + 3) (.int .i64 far))[i]? = cur[i]? := by
      intro i hi
      rw [Array.getElem?_setIfInBounds_ne (by omega), Array.getElem?_setIfInBounds_ne (by omega), Array.getElem?_setIfInBounds_ne (by omega), Array.getElem?_setIfInBounds_ne (by omega)]
    rw [e _ (by omega), e _ (by omega), e _ (by omega), e _ (by omega)]
    exact ⟨a, b, c, d⟩
  · obtain rfl : j = k := by omega
    refine ⟨?_, ?_, ?_, ?_⟩
    · rw [Array.getElem?_setIfInBounds_ne (by omega), Array.getElem?_setIfInBounds_ne (by omega), Array.getElem?_setIfInBounds_ne (by omega), Array.getElem?_setIfInBounds_self_of_lt (by omega)]
    · rw [Array.getElem?_setIfInBounds_ne (by omega), Array.getElem?_setIfInBounds_ne (by omega), Array.getElem?_setIfInBounds_self_of_lt (by simp; omega)]
    · rw [Array.getElem?_setIfInBounds_ne (by omega), Array.getElem?_setIfInBounds_self_of_lt (by simp; omega)]
    · rw [Array.getElem?_setIfInBounds_self_of_lt (by simp; omega)]
theorem blkW {w : World} {g : Nat} {cur : Array Value} {t : TypeId} (h : w.heap[g]? = some (.cells cur t (0, 0))) (a : Nat) (ha : a < cur.size) : (∃ v, w.cell? ⟨g, a, none⟩ = some v) ∧ w.frozen? ⟨g, a, none⟩ = false := by
  refine ⟨⟨cur[a], ?_⟩, ?_⟩
  · simp [World.cell?, h, ha]
  · simp [World.frozen?, h]
end Co
end Go.Proofs.Ytbdekfghddekkaa
