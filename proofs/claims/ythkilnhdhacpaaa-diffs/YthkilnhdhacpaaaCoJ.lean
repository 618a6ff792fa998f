
import Derived.Test.YthkilnhdhacpaaaCoI
namespace Go.Proofs.Ythkilnhdhacpaaa
open Go.RowKit
namespace Co

/-- a chain, of at most so many bases -/
def chn (ls : List (Ln × Value)) : Nat → ByteArray → List (Ln × Value)
  | 0, _ => []
  | f + 1, nm => match findL ls 2 nm with
    | none => []
    | some p => p :: chn ls f p.1.frm
theorem chn_none {ls : List (Ln × Value)} {f : Nat} {nm : ByteArray} (h : findL ls 2 nm = none) : chn ls f nm = [] := by
  cases f with
  | zero => rfl
  | succ f => rw [chn, h]
theorem chn_some {ls : List (Ln × Value)} {f : Nat} {nm : ByteArray} {p : Ln × Value} (h : findL ls 2 nm = some p) : chn ls (f + 1) nm = p :: chn ls f p.1.frm := by rw [chn, h]
theorem chn_mem (ls : List (Ln × Value)) : ∀ (f : Nat) (nm : ByteArray), ∀ p ∈ chn ls f nm, p ∈ ls
  | 0, _, p, h => by simp [chn] at h
  | f + 1, nm, p, h => by
    rw [chn] at h
    split at h
    · simp at h
    · rename_i q hq
      rcases List.mem_cons.1 h with h | h
      · subst h; exact findL_mem hq
      · exact chn_mem ls f _ p h
theorem chn_len (ls : List (Ln × Value)) : ∀ (f : Nat) (nm : ByteArray), (chn ls f nm).length ≤ f
  | 0, _ => by simp [chn]
  | f + 1, nm => by
    rw [chn]
    split
    · simp
    · have := chn_len ls f (by assumption : Ln × Value).1.frm
      simp; omega
theorem cells_new_at (w : World) (cs : List Value) (t : TypeId) {g : Nat} (hg : g = w.heap.size) : ∀ (j : Nat) (u : Value), cs[j]? = some u → (w.alloc (.cells cs.toArray t)).cell? ((⟨g, 0, none⟩ : Addr).add j) = some u := by
  subst hg
  exact cells_new w cs t
theorem heap_alloc_at' (w : World) (o : Obj) {k : Nat} (hk : k = w.heap.size) : (w.alloc o).heap[k]? = some o := by
  subst hk
  show (w.heap.push o)[w.heap.size]? = some o
  simp
theorem heap_alloc_lt' (w : World) (o : Obj) {k : Nat} (hk : k < w.heap.size) : (w.alloc o).heap[k]? = w.heap[k]? := Below.heap_alloc w o k hk
def lenOf : Value → Nat
  | .slice _ n _ => n
  | _ => 0
theorem lines_own {w : World} {B : Nat} {v : Value} {ls : List (Ln × Value)} {e : TypeId} (h : w.ownsRow B e 5 v ls.length (flatL ls)) (hs : ∀ p ∈ ls, RowAt w p.2 p.1.sets.length (flatS p.1.sets)) : LinesAt w v ls := ⟨own_row h, hs⟩

end Co
end Go.Proofs.Ythkilnhdhacpaaa
