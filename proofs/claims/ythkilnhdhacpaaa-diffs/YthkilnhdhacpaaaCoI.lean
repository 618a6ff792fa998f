
import Derived.Test.YthkilnhdhacpaaaCoH
namespace Go.Proofs.Ythkilnhdhacpaaa
open Go.RowKit
namespace Co

/-- the fault of a line behind others -/
def faultN (ls : List (Ln × Value)) (l : Ln) : Nat :=
  if decide (ls.length = 0) != decide (l.kind = 1) then 2
  else if allFit l.sets = false then 3
  else if many ls l.kind = true then 4
  else if twc l.sets = true then 5
  else if (findL ls l.kind l.name).isSome = true then 5 else 0

theorem int_eq0 (n : Nat) : ((n : Int) == 0) = decide (n = 0) := by rw [Bool.eq_iff_iff]; simp
theorem int_eq1 (n : Nat) : ((n : Int) == 1) = decide (n = 1) := by rw [Bool.eq_iff_iff]; simp; omega
theorem findL_kind {ls : List (Ln × Value)} {kind : Nat} {name : ByteArray} {p : Ln × Value} (h : findL ls kind name = some p) : p.1.kind = kind := by
  have := List.find?_some h
  simp [isL] at this
  exact this.1

/-- is the base there that a line names? -/
def baseB (ls : List (Ln × Value)) (frm : ByteArray) : Bool := frm.toList.isEmpty || (findL ls 2 frm).isSome

end Co
end Go.Proofs.Ythkilnhdhacpaaa
