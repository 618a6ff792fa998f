
import Derived.Test.YthkilnhdhacpaaaCoE
namespace Go.Proofs.Ythkilnhdhacpaaa
open Go.RowKit
namespace Co

abbrev lnA' (x0 x1 : Int) (s2 s3 : ByteArray) (a4 : Option Addr) (n4 c4 : Nat) : Value := .agg #[.int .i64 x0, .int .i64 x1, .string s2, .string s3, .slice a4 n4 c4]
/-- the cells of lines: each with its list's value -/
def flatL : List (Ln × Value) → List Value
  | [] => []
  | p :: r => .int .i64 (p.1.place : Int) :: .int .i64 (p.1.kind : Int) :: .string p.1.name :: .string p.1.frm :: p.2 :: flatL r
theorem flatL_append : ∀ a b : List (Ln × Value), flatL (a ++ b) = flatL a ++ flatL b
  | [], b => rfl
  | p :: a, b => by simp [flatL, flatL_append a b]
theorem flatL_at : ∀ (ls : List (Ln × Value)) (i : Nat) (l : Ln) (sv : Value), ls[i]? = some (l, sv) → (flatL ls)[i * 5]? = some (.int .i64 (l.place : Int)) ∧ (flatL ls)[i * 5 + 1]? = some (.int .i64 (l.kind : Int)) ∧ (flatL ls)[i * 5 + 2]? = some (.string l.name) ∧ (flatL ls)[i * 5 + 3]? = some (.string l.frm) ∧ (flatL ls)[i * 5 + 4]? = some sv
  | [], i, l, sv, h => by simp at h
  | q :: r, 0, l, sv, h => by simp at h; subst h; simp [flatL]
  | q :: r, i + 1, l, sv, h => by
    have ih := flatL_at r i l sv (by simpa using h)
    have e0 : (i + 1) * 5 = i * 5 + 5 := by omega
    rw [e0]
    simp only [flatL]
    exact ih
theorem flatS_at : ∀ (ss : List (Nat × Nat)) (i : Nat) (a b : Nat), ss[i]? = some (a, b) → (flatS ss)[i * 2]? = some (.string (wordB a)) ∧ (flatS ss)[i * 2 + 1]? = some (.int .i64 (b : Int))
  | [], i, a, b, h => by simp at h
  | q :: r, 0, a, b, h => by simp at h; subst h; simp [flatS]
  | q :: r, i + 1, a, b, h => by
    have ih := flatS_at r i a b (by simpa using h)
    have e0 : (i + 1) * 2 = i * 2 + 2 := by omega
    rw [e0]
    simp only [flatS]
    exact ih
def LinesAt (w : World) (v : Value) (ls : List (Ln × Value)) : Prop := RowAt w v ls.length (flatL ls) ∧ ∀ p ∈ ls, RowAt w p.2 p.1.sets.length (flatS p.1.sets)
theorem LinesAt.nx {w w' : World} {v : Value} {ls : List (Ln × Value)} (h : LinesAt w v ls) (hb : Below w.heap.size w w') : LinesAt w' v ls := ⟨h.1.nx hb, fun p hp => (h.2 p hp).nx hb⟩
theorem LinesAt.at {w : World} {ao : Option Addr} {n cap : Nat} {ls : List (Ln × Value)} (h : LinesAt w (.slice ao n cap) ls) {k : Nat} {l : Ln} {sv : Value} (hk : ls[k]? = some (l, sv)) :
    ∃ b off so sc, ao = some ⟨b, off, none⟩ ∧ b < w.heap.size ∧ sv = .slice so l.sets.length sc ∧ RowAt w (.slice so l.sets.length sc) l.sets.length (flatS l.sets) ∧
      w.cell? ⟨b, off + k * 5, none⟩ = some (.int .i64 (l.place : Int)) ∧ w.cell? ⟨b, off + k * 5 + 1, none⟩ = some (.int .i64 (l.kind : Int)) ∧ w.cell? ⟨b, off + k * 5 + 2, none⟩ = some (.string l.name) ∧
      w.cell? ⟨b, off + k * 5 + 3, none⟩ = some (.string l.frm) ∧ w.cell? ⟨b, off + k * 5 + 4, none⟩ = some (.slice so l.sets.length sc) := by
  obtain ⟨f0, f1, f2, f3, f4⟩ := flatL_at ls k l sv hk
  obtain ⟨b, off, rfl, hb, g0⟩ := h.1.at f0
  have hin : ∀ j x, (flatL ls)[k * 5 + j]? = some x → w.cell? ⟨b, off + k * 5 + j, none⟩ = some x := by
    intro j x hx
    obtain ⟨b', off', e, _, g⟩ := h.1.at hx
    obtain ⟨rfl, rfl⟩ : b = b' ∧ off = off' := by simpa using e
    rw [Nat.add_assoc]; exact g
  have hs := h.2 (l, sv) (List.mem_of_getElem? hk)
  obtain ⟨so, sc, e, hcap, hrest⟩ := hs
  simp only at e
  refine ⟨b, off, so, sc, rfl, hb, e, ⟨so, sc, rfl, hcap, hrest⟩, g0, hin 1 _ f1, hin 2 _ f2, hin 3 _ f3, ?_⟩
  rw [← e]; exact hin 4 _ f4
theorem sets_at {w : World} {so : Option Addr} {n sc : Nat} {ss : List (Nat × Nat)} (h : RowAt w (.slice so n sc) n (flatS ss)) {k a b : Nat} (hk : ss[k]? = some (a, b)) :
    ∃ bl off, so = some ⟨bl, off, none⟩ ∧ bl < w.heap.size ∧ w.cell? ⟨bl, off + k * 2, none⟩ = some (.string (wordB a)) ∧ w.cell? ⟨bl, off + k * 2 + 1, none⟩ = some (.int .i64 (b : Int)) := by
  obtain ⟨f0, f1⟩ := flatS_at ss k a b hk
  obtain ⟨bl, off, rfl, hb, g0⟩ := h.at f0
  obtain ⟨b', off', e, _, g⟩ := h.at f1
  obtain ⟨rfl, rfl⟩ : bl = b' ∧ off = off' := by simpa using e
  exact ⟨bl, off, rfl, hb, g0, by rw [Nat.add_assoc]; exact g⟩

/-- may the number stand with the key? -/
def fitsK (k : Nat) (n : Int) : Bool := match k with | 0 => inB 0 20 n | 1 => inB 0 20 n | 2 => inB 0 999 n | _ => inB 1 99 n
theorem fits_any (k : Nat) (n : Int) (w : World) :
    Calls Try.prog 22 #[.string (wordB k), .int .i64 n] w fun e w' => e = .returned (.bool (fitsK k n)) ∧ w' = w := by
  match k with
  | 0 => exact fits_size n w
  | 1 => exact fits_wait n w
  | 2 => exact fits_far n w
  | k + 3 => exact fits_budget n w

def allFit (ss : List (Nat × Nat)) : Bool := ss.all fun p => fitsK p.1 p.2
theorem allFit_cons (a b : Nat) (r : List (Nat × Nat)) : allFit ((a, b) :: r) = (fitsK a b && allFit r) := by simp [allFit]

/-- how many lines have this kind -/
def cnt (ls : List (Ln × Value)) (kind : Nat) : Nat := (ls.filter fun p => p.1.kind == kind).length
theorem cnt_snoc (ls : List (Ln × Value)) (kind k : Nat) (l : Ln) (sv : Value) (h : ls[k]? = some (l, sv)) : cnt (ls.take (k + 1)) kind = cnt (ls.take k) kind + (if l.kind = kind then 1 else 0) := by
  obtain ⟨hk, e⟩ := List.getElem?_eq_some_iff.1 h
  unfold cnt
  rw [List.take_succ_eq_append_getElem hk, List.filter_append, e, List.length_append]
  by_cases hh : l.kind = kind <;> simp [hh]
def many (ls : List (Ln × Value)) (kind : Nat) : Bool := if kind = 2 ∨ kind = 3 then decide (6 ≤ cnt ls kind) else false

/-- no key twice -/
def once (ss : List (Nat × Nat)) : Prop := ss.Pairwise fun a b => ¬ (wordB a.1).toList = (wordB b.1).toList
def twc (ss : List (Nat × Nat)) : Bool := !decide (ss.Pairwise fun a b => ¬ (wordB a.1).toList = (wordB b.1).toList)
theorem once_take {ss : List (Nat × Nat)} {k : Nat} {p : Nat × Nat} (h : ss[k]? = some p) (h1 : once (ss.take k)) (h2 : ∀ j q, j < k → ss[j]? = some q → ¬ (wordB q.1).toList = (wordB p.1).toList) : once (ss.take (k + 1)) := by
  obtain ⟨hk, e⟩ := List.getElem?_eq_some_iff.1 h
  unfold once at *
  rw [List.take_succ_eq_append_getElem hk, List.pairwise_append]
  refine ⟨h1, by simp, fun a ha b hb => ?_⟩
  simp at hb
  subst hb
  obtain ⟨j, hj⟩ := List.getElem?_of_mem ha
  have hjl : j < k := by
    have := (List.getElem?_eq_some_iff.1 hj).1
    simp at this; omega
  rw [List.getElem?_take, if_pos hjl] at hj
  rw [e]
  exact h2 j a hjl hj
theorem twc_bad {ss : List (Nat × Nat)} {j k : Nat} {q p : Nat × Nat} (hjk : j < k) (hq : ss[j]? = some q) (hp : ss[k]? = some p) (he : (wordB q.1).toList = (wordB p.1).toList) : twc ss = true := by
  unfold twc
  have : ¬ ss.Pairwise fun a b => ¬ (wordB a.1).toList = (wordB b.1).toList := by
    intro h
    obtain ⟨h1, rfl⟩ := List.getElem?_eq_some_iff.1 hq
    obtain ⟨h2, rfl⟩ := List.getElem?_eq_some_iff.1 hp
    exact List.pairwise_iff_getElem.1 h j k h1 h2 hjk he
  simp [this]
theorem twc_good {ss : List (Nat × Nat)} (h : once ss) : twc ss = false := by
  unfold twc; unfold once at h; simp [h]

end Co
end Go.Proofs.Ythkilnhdhacpaaa
