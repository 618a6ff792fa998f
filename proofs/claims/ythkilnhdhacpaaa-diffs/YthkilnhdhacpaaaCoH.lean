
import Derived.Test.YthkilnhdhacpaaaCoG
namespace Go.Proofs.Ythkilnhdhacpaaa
open Go.RowKit
namespace Co

def isL (kind : Nat) (name : ByteArray) (p : Ln × Value) : Bool := (p.1.kind == kind) && (p.1.name.toList == name.toList)
def findL (ls : List (Ln × Value)) (kind : Nat) (name : ByteArray) : Option (Ln × Value) := ls.find? (isL kind name)
theorem findL_hit {ls : List (Ln × Value)} {kind : Nat} {name : ByteArray} {k : Nat} {p : Ln × Value} (hd : ls.drop k = p :: ls.drop (k + 1)) (hs : findL (ls.drop k) kind name = findL ls kind name) (h : isL kind name p = true) : findL ls kind name = some p := by
  rw [← hs, hd, findL, List.find?_cons, h]
theorem findL_miss {ls : List (Ln × Value)} {kind : Nat} {name : ByteArray} {k : Nat} {p : Ln × Value} (hd : ls.drop k = p :: ls.drop (k + 1)) (hs : findL (ls.drop k) kind name = findL ls kind name) (h : isL kind name p = false) : findL (ls.drop (k + 1)) kind name = findL ls kind name := by
  rw [← hs, hd, findL, findL, List.find?_cons, h]
theorem findL_mem {ls : List (Ln × Value)} {kind : Nat} {name : ByteArray} {p : Ln × Value} (h : findL ls kind name = some p) : p ∈ ls := List.mem_of_find?_eq_some h

/-- what find answers -/
def Found (o : Option (Ln × Value)) (w w' : World) (e : Ending) : Prop :=
  (o = none ∧ e = .returned (lnA' 0 0 ⟨#[]⟩ ⟨#[]⟩ none 0 0) ∧ Below w.heap.size w w') ∨
  (∃ l so sc, o = some (l, .slice so l.sets.length sc) ∧ e = .returned (lnA' l.place l.kind l.name l.frm so l.sets.length sc) ∧ Below w.heap.size w w')

/-- the number that stands with a key in a line -/
def valL (ss : List (Nat × Nat)) (k : Nat) : Option Nat := (ss.find? fun p => (wordB p.1).toList == (wordB k).toList).map (·.2)
def valN (ss : List (Nat × Nat)) (k : Nat) : Int := match valL ss k with | some n => n | none => 0
theorem valL_hit {ss : List (Nat × Nat)} {key k a b : Nat} (hd : ss.drop k = (a, b) :: ss.drop (k + 1)) (hs : valL (ss.drop k) key = valL ss key) (h : ((wordB a).toList == (wordB key).toList) = true) : valL ss key = some b := by
  rw [← hs, hd, valL, List.find?_cons]; simp [h]
theorem valL_miss {ss : List (Nat × Nat)} {key k a b : Nat} (hd : ss.drop k = (a, b) :: ss.drop (k + 1)) (hs : valL (ss.drop k) key = valL ss key) (h : ((wordB a).toList == (wordB key).toList) = false) : valL (ss.drop (k + 1)) key = valL ss key := by
  rw [← hs, hd, valL, valL, List.find?_cons]; simp [h]

end Co
end Go.Proofs.Ythkilnhdhacpaaa
