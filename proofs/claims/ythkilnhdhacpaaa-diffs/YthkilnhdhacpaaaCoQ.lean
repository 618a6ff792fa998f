
import Derived.Test.YthkilnhdhacpaaaCoP
import Derived.Test.YthkilnhdhacpaaaCoL
namespace Go.Proofs.Ythkilnhdhacpaaa
open Go.RowKit
namespace Co

def tabStep (all : List (Ln × Value)) (st : Int × List Pl) (p : Ln × Value) : Int × List Pl :=
  if p.1.kind = 1 then (valOf 3 0 p.1.sets [], st.2) else if p.1.kind = 3 then (st.1, insP (poolC all p.1) st.2) else st
def tabTo (all : List (Ln × Value)) (k : Nat) : Int × List Pl := (all.take k).foldl (tabStep all) (0, [])
theorem tabTo_succ (all : List (Ln × Value)) (k : Nat) (p : Ln × Value) (h : all[k]? = some p) : tabTo all (k + 1) = tabStep all (tabTo all k) p := by
  unfold tabTo
  obtain ⟨hk, rfl⟩ := List.getElem?_eq_some_iff.1 h
  rw [List.take_succ_eq_append_getElem hk, List.foldl_append]
  rfl
abbrev bTab (b : Int) (v : Value) : Obj := .cells #[.int .i64 b, v] 24
theorem blk2 {w : World} {g : Nat} {c0 c1 : Value} {t : TypeId} (h : w.heap[g]? = some (.cells #[c0, c1] t (0, 0))) :
    w.cell? ⟨g, 0, none⟩ = some c0 ∧ w.cell? ⟨g, 1, none⟩ = some c1 ∧ ∀ a, w.frozen? ⟨g, a, none⟩ = false := by
  refine ⟨?_, ?_, fun a => ?_⟩ <;> simp [World.cell?, World.frozen?, h]

end Co
end Go.Proofs.Ythkilnhdhacpaaa
