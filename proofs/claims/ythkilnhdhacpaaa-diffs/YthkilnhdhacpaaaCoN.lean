
import Derived.Test.YthkilnhdhacpaaaCoM
namespace Go.Proofs.Ythkilnhdhacpaaa
open Go.RowKit
namespace Co

def chv (key : Nat) (other : Int) : List (Ln × Value) → Int
  | [] => other
  | p :: r => match valL p.1.sets key with | some n => n | none => chv key other r
def valOf (key : Nat) (other : Int) (ss : List (Nat × Nat)) (ch : List (Ln × Value)) : Int := match valL ss key with | some n => n | none => chv key other ch

/-- pools -/
structure Pl where
  nm : ByteArray
  sz : Int
  wt : Int
  fr : Int
def flatP : List Pl → List Value
  | [] => []
  | p :: r => .string p.nm :: .int .i64 p.sz :: .int .i64 p.wt :: .int .i64 p.fr :: flatP r
theorem flatP_append : ∀ a b : List Pl, flatP (a ++ b) = flatP a ++ flatP b
  | [], b => rfl
  | p :: a, b => by simp [flatP, flatP_append a b]
theorem flatP_at : ∀ (ps : List Pl) (i : Nat) (p : Pl), ps[i]? = some p → (flatP ps)[i * 4]? = some (.string p.nm) ∧ (flatP ps)[i * 4 + 1]? = some (.int .i64 p.sz) ∧ (flatP ps)[i * 4 + 2]? = some (.int .i64 p.wt) ∧ (flatP ps)[i * 4 + 3]? = some (.int .i64 p.fr)
  | [], i, p, h => by simp at h
  | q :: r, 0, p, h => by simp at h; subst h; simp [flatP]
  | q :: r, i + 1, p, h => by
    have ih := flatP_at r i p (by simpa using h)
    have e0 : (i + 1) * 4 = i * 4 + 4 := by omega
    rw [e0]
    simp only [flatP]
    exact ih
theorem pool_at {w : World} {ao : Option Addr} {n m cap : Nat} {ps : List Pl} (h : RowAt w (.slice ao n cap) m (flatP ps)) {k : Nat} {p : Pl} (hk : ps[k]? = some p) :
    ∃ b off, ao = some ⟨b, off, none⟩ ∧ b < w.heap.size ∧ w.cell? ⟨b, off + k * 4, none⟩ = some (.string p.nm) ∧ w.cell? ⟨b, off + k * 4 + 1, none⟩ = some (.int .i64 p.sz) ∧ w.cell? ⟨b, off + k * 4 + 2, none⟩ = some (.int .i64 p.wt) ∧ w.cell? ⟨b, off + k * 4 + 3, none⟩ = some (.int .i64 p.fr) := by
  obtain ⟨f0, f1, f2, f3⟩ := flatP_at ps k p hk
  obtain ⟨b, off, rfl, hb, g0⟩ := h.at f0
  have hin : ∀ j x, (flatP ps)[k * 4 + j]? = some x → w.cell? ⟨b, off + k * 4 + j, none⟩ = some x := by
    intro j x hx
    obtain ⟨b', off', e, _, g⟩ := h.at hx
    obtain ⟨rfl, rfl⟩ : b = b' ∧ off = off' := by simpa using e
    rw [Nat.add_assoc]; exact g
  exact ⟨b, off, rfl, hb, g0, hin 1 _ f1, hin 2 _ f2, hin 3 _ f3⟩
abbrev plA (p : Pl) : Value := .agg #[.string p.nm, .int .i64 p.sz, .int .i64 p.wt, .int .i64 p.fr]

/-- a pool at its place -/
def insP (p : Pl) : List Pl → List Pl
  | [] => [p]
  | q :: r => if lt p.nm q.nm = true then p :: q :: r else q :: insP p r
theorem insP_yes {p q : Pl} {r : List Pl} (h : lt p.nm q.nm = true) : insP p (q :: r) = p :: q :: r := by rw [insP, if_pos h]
theorem insP_no {p q : Pl} {r : List Pl} (h : lt p.nm q.nm = false) : insP p (q :: r) = q :: insP p r := by rw [insP, if_neg (by simp [h])]
theorem insP_len (p : Pl) : ∀ ps : List Pl, (insP p ps).length = ps.length + 1
  | [] => rfl
  | q :: r => by
    rw [insP]
    split
    · rfl
    · simp [insP_len p r]
theorem info_pl : (Try.prog.info? 46).map (fun i => (i.zero, i.size, i.bytes)) = some (some (.agg #[.string ⟨#[]⟩, .int .i64 0, .int .i64 0, .int .i64 0]), 4, 40) := by kernel_rfl
end Co
end Go.Proofs.Ythkilnhdhacpaaa
