
import Derived.Test.YthkilnhdhacpaaaCoB
namespace Go.Proofs.Ythkilnhdhacpaaa
open Go.RowKit
namespace Co

theorem ret_slc {a : Option Addr} {n m c : Nat} (h : n = m) : Ending.returned (.slice a n c) = .returned (.slice a m c) := by rw [h]
def notE (p : ByteArray) : Bool := !p.toList.isEmpty
def flds (s : ByteArray) : List ByteArray := (pieces s 32).filter notE
theorem flds_len (s : ByteArray) : (flds s).length ≤ s.size + 1 := Nat.le_trans (List.length_filter_le _ _) (pieces_len s 32)
theorem flds_small (s : ByteArray) : ∀ p ∈ flds s, p.size ≤ s.size := fun p h => pieces_small s 32 p (List.mem_filter.1 h).1
theorem filt_yes (l : List ByteArray) (k : Nat) (p : ByteArray) (h : l[k]? = some p) (hp : p.toList.isEmpty = false) : (l.take (k + 1)).filter notE = (l.take k).filter notE ++ [p] := by
  obtain ⟨hk, rfl⟩ := List.getElem?_eq_some_iff.1 h
  rw [List.take_succ_eq_append_getElem hk, List.filter_append]
  simp [notE, hp]
theorem filt_no (l : List ByteArray) (k : Nat) (p : ByteArray) (h : l[k]? = some p) (hp : p.toList.isEmpty = true) : (l.take (k + 1)).filter notE = (l.take k).filter notE := by
  obtain ⟨hk, rfl⟩ := List.getElem?_eq_some_iff.1 h
  rw [List.take_succ_eq_append_getElem hk, List.filter_append]
  simp [notE, hp]
theorem RowAt.at {w : World} {ao : Option Addr} {n m cap : Nat} {cs : List Value} (h : RowAt w (.slice ao n cap) m cs) {j : Nat} {x : Value} (hx : cs[j]? = some x) :
    ∃ b off, ao = some ⟨b, off, none⟩ ∧ b < w.heap.size ∧ w.cell? ⟨b, off + j, none⟩ = some x := by
  obtain ⟨ao', cap', e, _, h⟩ := h
  simp only [Value.slice.injEq] at e
  obtain ⟨rfl, _, _⟩ := e
  rcases h with h | ⟨b, off, h1, h2, h3⟩
  · subst h; simp at hx
  · exact ⟨b, off, h1, h2, h3 j x hx⟩
end Co
end Go.Proofs.Ythkilnhdhacpaaa
