
import Derived.Test.YthkilnhdhacpaaaLwC
import Derived.Maps.AppendAt
namespace Go.Proofs.Ythkilnhdhacpaaa
open Go.RowKit
namespace Lw
open Co

abbrev bOw (v1 v2 v3 v4 : Value) : Obj := .cells #[v1, v2, v3, v4] 31
def mP (q : Int) : List Value := [.string ⟨#[]⟩, .int .i64 0, .int .i64 0, .int .i64 q]
def mV (q : Int) : List Value := [.int .i64 0, .string ⟨#[]⟩, .int .i64 q, .int .i64 0]
def mW (q : Int) : List Value := [.int .i64 q, .string ⟨#[]⟩]
def mT (q : Int) : List Value := [.int .i64 0, .string ⟨#[]⟩, .int .i64 q]
/-- the first so many elements of a block bear the mark -/
def MarkG (sz : Nat) (m : List Value) (cur : Array Value) (k : Nat) : Prop := ∀ j, j < k → ∀ (i : Nat) (x : Value), m[i]? = some x → cur[j * sz + i]? = some x
def FullG (ty : TypeId) (sz : Nat) (m : List Value) (w : World) (v : Value) : Prop :=
  v = .slice none 0 0 ∨ ∃ g cap cur, v = .slice (some ⟨g, 0, none⟩) cap cap ∧ cap ≤ maxLen ∧ w.heap[g]? = some (.cells cur ty (0, 0)) ∧ MarkG sz m cur cap
theorem FullG.keep {ty : TypeId} {sz : Nat} {m : List Value} {w w' : World} {v : Value} (h : FullG ty sz m w v) (hh : ∀ g, v.ownBlock = some g → w'.heap[g]? = w.heap[g]?) : FullG ty sz m w' v := by
  rcases h with h | ⟨g, cap, cur, h1, h2, h3, h4⟩
  · exact .inl h
  · exact .inr ⟨g, cap, cur, h1, h2, (hh g (by rw [h1]; rfl)).trans h3, h4⟩
theorem mark_zero (sz : Nat) (m : List Value) (cur : Array Value) : MarkG sz m cur 0 := fun j hj => by omega
theorem mark_4 {cur : Array Value} {k cap : Nat} {m0 m1 m2 m3 : Value} (h : MarkG 4 [m0, m1, m2, m3] cur k) (hc : cur.size = cap * 4) (hk : k < cap) :
    MarkG 4 [m0, m1, m2, m3] ((((cur.setIfInBounds (k * 4) m0).setIfInBounds (k * 4 + 1) m1).setIfInBounds (k * 4 + 2) m2).setIfInBounds (k * 4 + 3) m3) (k + 1) := by
  intro j hj i x hx
  have hi : i < 4 := (List.getElem?_eq_some_iff.1 hx).1
  have hsz : k * 4 + 3 < cur.size := by omega
  by_cases hjk : j < k
  · rw [Array.getElem?_setIfInBounds_ne (by omega), Array.getElem?_setIfInBounds_ne (by omega), Array.getElem?_setIfInBounds_ne (by omega), Array.getElem?_setIfInBounds_ne (by omega)]
    exact h j hjk i x hx
  · obtain rfl : j = k := by omega
    match i, hi, hx with
    | 0, _, hx => simp at hx; subst hx; simp only [Nat.add_zero]; rw [Array.getElem?_setIfInBounds_ne (by omega), Array.getElem?_setIfInBounds_ne (by omega), Array.getElem?_setIfInBounds_ne (by omega), Array.getElem?_setIfInBounds_self_of_lt (by omega)]
    | 1, _, hx => simp at hx; subst hx; rw [Array.getElem?_setIfInBounds_ne (by omega), Array.getElem?_setIfInBounds_ne (by omega), Array.getElem?_setIfInBounds_self_of_lt (by simp; omega)]
    | 2, _, hx => simp at hx; subst hx; rw [Array.getElem?_setIfInBounds_ne (by omega), Array.getElem?_setIfInBounds_self_of_lt (by simp; omega)]
    | 3, _, hx => simp at hx; subst hx; rw [Array.getElem?_setIfInBounds_self_of_lt (by simp; omega)]
theorem mark_3 {cur : Array Value} {k cap : Nat} {m0 m1 m2 : Value} (h : MarkG 3 [m0, m1, m2] cur k) (hc : cur.size = cap * 3) (hk : k < cap) :
    MarkG 3 [m0, m1, m2] (((cur.setIfInBounds (k * 3) m0).setIfInBounds (k * 3 + 1) m1).setIfInBounds (k * 3 + 2) m2) (k + 1) := by
  intro j hj i x hx
  have hi : i < 3 := (List.getElem?_eq_some_iff.1 hx).1
  have hsz : k * 3 + 2 < cur.size := by omega
  by_cases hjk : j < k
  · rw [Array.getElem?_setIfInBounds_ne (by omega), Array.getElem?_setIfInBounds_ne (by omega), Array.getElem?_setIfInBounds_ne (by omega)]
    exact h j hjk i x hx
  · obtain rfl : j = k := by omega
    match i, hi, hx with
    | 0, _, hx => simp at hx; subst hx; simp only [Nat.add_zero]; rw [Array.getElem?_setIfInBounds_ne (by omega), Array.getElem?_setIfInBounds_ne (by omega), Array.getElem?_setIfInBounds_self_of_lt (by omega)]
    | 1, _, hx => simp at hx; subst hx; rw [Array.getElem?_setIfInBounds_ne (by omega), Array.getElem?_setIfInBounds_self_of_lt (by simp; omega)]
    | 2, _, hx => simp at hx; subst hx; rw [Array.getElem?_setIfInBounds_self_of_lt (by simp; omega)]
theorem mark_2 {cur : Array Value} {k cap : Nat} {m0 m1 : Value} (h : MarkG 2 [m0, m1] cur k) (hc : cur.size = cap * 2) (hk : k < cap) :
    MarkG 2 [m0, m1] ((cur.setIfInBounds (k * 2) m0).setIfInBounds (k * 2 + 1) m1) (k + 1) := by
  intro j hj i x hx
  have hi : i < 2 := (List.getElem?_eq_some_iff.1 hx).1
  have hsz : k * 2 + 1 < cur.size := by omega
  by_cases hjk : j < k
  · rw [Array.getElem?_setIfInBounds_ne (by omega), Array.getElem?_setIfInBounds_ne (by omega)]
    exact h j hjk i x hx
  · obtain rfl : j = k := by omega
    match i, hi, hx with
    | 0, _, hx => simp at hx; subst hx; simp only [Nat.add_zero]; rw [Array.getElem?_setIfInBounds_ne (by omega), Array.getElem?_setIfInBounds_self_of_lt (by omega)]
    | 1, _, hx => simp at hx; subst hx; rw [Array.getElem?_setIfInBounds_self_of_lt (by simp; omega)]
theorem blkOw {w : World} {g : Nat} {v1 v2 v3 v4 : Value} (h : w.heap[g]? = some (bOw v1 v2 v3 v4)) : w.cell? ⟨g, 0, none⟩ = some v1 ∧ w.cell? ⟨g, 1, none⟩ = some v2 ∧ w.cell? ⟨g, 2, none⟩ = some v3 ∧ w.cell? ⟨g, 3, none⟩ = some v4 ∧ ∀ a, w.frozen? ⟨g, a, none⟩ = false := by
  refine ⟨?_, ?_, ?_, ?_, fun a => ?_⟩ <;> simp [World.cell?, World.frozen?, h]
theorem blkC {w : World} {g : Nat} {cur : Array Value} {t : TypeId} (h : w.heap[g]? = some (.cells cur t (0, 0))) (a : Nat) (ha : a < cur.size) : (∃ v, w.cell? ⟨g, a, none⟩ = some v) ∧ w.frozen? ⟨g, a, none⟩ = false := by
  refine ⟨⟨cur[a], ?_⟩, ?_⟩
  · simp [World.cell?, h, ha]
  · simp [World.frozen?, h]
theorem ownG_heap {w w' : World} {B : Nat} {e : TypeId} {size : Nat} {v : Value} {n : Nat} {xs : List Value} (h : w.ownsRow B e size v n xs) (hh : ∀ j, v.ownBlock = some j → w'.heap[j]? = w.heap[j]?) : w'.ownsRow B e size v n xs := by
  obtain ⟨hl, h⟩ := h
  refine ⟨hl, ?_⟩
  rcases h with h | ⟨g, cap, cur, h1, h2, hg, h4⟩
  · exact .inl h
  · exact .inr ⟨g, cap, cur, h1, h2, (hh g (by rw [h1]; rfl)).trans hg, h4⟩
def SameW (w w' : World) : Prop := w'.os = w.os ∧ w'.tape = w.tape ∧ w'.output = w.output
theorem SameW.trans {a b c : World} (h : SameW a b) (k : SameW b c) : SameW a c := ⟨k.1.trans h.1, k.2.1.trans h.2.1, k.2.2.trans h.2.2⟩
theorem sameW_set (w : World) (a : Addr) (v : Value) : SameW w (w.setCell a v) := by
  have h := (Below.refl 0 w).setCell (Nat.zero_le a.block) v
  exact ⟨h.os, h.tape, h.output⟩
theorem info_ps : (Try.prog.info? 22).map (fun i => (i.zero, i.size, i.bytes)) = some (some (.slice none 0 0), 1, 24) := by kernel_rfl
theorem info_vs : (Try.prog.info? 47).map (fun i => (i.zero, i.size, i.bytes)) = some (some (.slice none 0 0), 1, 24) := by kernel_rfl
theorem info_ws : (Try.prog.info? 50).map (fun i => (i.zero, i.size, i.bytes)) = some (some (.slice none 0 0), 1, 24) := by kernel_rfl
theorem info_ts : (Try.prog.info? 32).map (fun i => (i.zero, i.size, i.bytes)) = some (some (.slice none 0 0), 1, 24) := by kernel_rfl
end Lw
end Go.Proofs.Ythkilnhdhacpaaa
