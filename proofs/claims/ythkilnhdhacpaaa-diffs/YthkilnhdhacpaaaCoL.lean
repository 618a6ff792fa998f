
import Derived.Test.YthkilnhdhacpaaaCoK
namespace Go.Proofs.Ythkilnhdhacpaaa
open Go.RowKit
namespace Co

/-- the same over bare lines -/
def findC (ls : List Ln) (kind : Nat) (name : ByteArray) : Option Ln := ls.find? fun l => (l.kind == kind) && (l.name.toList == name.toList)
def cntC (ls : List Ln) (kind : Nat) : Nat := (ls.filter fun l => l.kind == kind).length
def manyC (ls : List Ln) (kind : Nat) : Bool := if kind = 2 ∨ kind = 3 then decide (6 ≤ cntC ls kind) else false
def faultC (ls : List Ln) (l : Ln) : Nat :=
  if decide (ls.length = 0) != decide (l.kind = 1) then 2
  else if allFit l.sets = false then 3
  else if manyC ls l.kind = true then 4
  else if twc l.sets = true then 5
  else if (findC ls l.kind l.name).isSome = true then 5 else 0
abbrev bare (ls : List (Ln × Value)) : List Ln := ls.map (·.1)
theorem findL_bare : ∀ (ls : List (Ln × Value)) (kind : Nat) (name : ByteArray), findC (bare ls) kind name = (findL ls kind name).map (·.1)
  | [], _, _ => rfl
  | p :: r, kind, name => by
    have ih := findL_bare r kind name
    simp only [findC, findL, bare, List.map_cons, List.find?_cons] at ih ⊢
    by_cases h : isL kind name p = true
    · have h' : ((p.1.kind == kind) && (p.1.name.toList == name.toList)) = true := h
      rw [h, h']; rfl
    · have h1 : isL kind name p = false := by simpa using h
      have h' : ((p.1.kind == kind) && (p.1.name.toList == name.toList)) = false := h1
      rw [h1, h']; exact ih
theorem cnt_bare (ls : List (Ln × Value)) (kind : Nat) : cntC (bare ls) kind = cnt ls kind := by
  unfold cntC cnt bare
  rw [List.filter_map, List.length_map]
  rfl
theorem fault_bare (ls : List (Ln × Value)) (l : Ln) : faultC (bare ls) l = faultN ls l := by
  unfold faultC faultN manyC many
  rw [findL_bare, cnt_bare]
  simp only [bare, List.length_map, Option.isSome_map]

/-- reading all lines: the lines, or the fault and its place -/
structure Rd where
  lines : List Ln
  err : Nat
  at' : Nat
def rdC : Nat → List Ln → List ByteArray → Rd
  | i, acc, [] => if acc.length = 0 then ⟨[], 2, i⟩ else ⟨acc, 0, 0⟩
  | i, acc, p :: r =>
    if (flds p).length = 0 then rdC (i + 1) acc r
    else match parseF (flds p) with
      | none => ⟨[], 2, i + 1⟩
      | some l => if faultC acc l = 0 then rdC (i + 1) (acc ++ [{ l with place := i + 1 }]) r else ⟨[], faultC acc l, i + 1⟩
def rd (s : ByteArray) : Rd := rdC 0 [] (pieces s 10)
theorem rdC_skip {i : Nat} {acc : List Ln} {p : ByteArray} {r : List ByteArray} (h : (flds p).length = 0) : rdC i acc (p :: r) = rdC (i + 1) acc r := by rw [rdC, if_pos h]
theorem rdC_bad {i : Nat} {acc : List (Ln × Value)} {p : ByteArray} {r : List ByteArray} (h : ¬ (flds p).length = 0) (hb : readN acc (flds p) ≠ 0) : rdC i (bare acc) (p :: r) = ⟨[], readN acc (flds p), i + 1⟩ := by
  rw [rdC, if_neg h]
  unfold readN at hb ⊢
  cases hp : parseF (flds p) with
  | none => rfl
  | some l =>
    rw [hp] at hb
    simp only at hb ⊢
    rw [fault_bare, if_neg hb]
theorem rdC_good {i : Nat} {acc : List (Ln × Value)} {p : ByteArray} {r : List ByteArray} {l : Ln} (h : ¬ (flds p).length = 0) (hl : parseF (flds p) = some l) (hb : readN acc (flds p) = 0) : rdC i (bare acc) (p :: r) = rdC (i + 1) (bare acc ++ [{ l with place := i + 1 }]) r := by
  rw [rdC, if_neg h, hl]
  unfold readN at hb
  rw [hl] at hb
  simp only at hb ⊢
  rw [fault_bare, if_pos hb]

theorem row_grown {w w' : World} {v : Value} {n : Nat} {cs : List Value} {row : Option Nat} (h : RowAt w v n cs) (hg : w.grownBy w' row) (hne : ∀ so m sc b off, v = .slice so m sc → so = some ⟨b, off, none⟩ → row ≠ some b) : RowAt w' v n cs := by
  obtain ⟨ao, cap, e, hc, h⟩ := h
  refine ⟨ao, cap, e, hc, ?_⟩
  rcases h with h | ⟨b, off, h1, h2, h3⟩
  · exact .inl h
  · refine .inr ⟨b, off, h1, Nat.lt_of_lt_of_le h2 hg.size, fun j x hx => ?_⟩
    exact hg.cell (h3 j x hx) (fun e' => hne ao n cap b off e h1 e'.symm)
theorem own_typed {w : World} {B size : Nat} {e : TypeId} {v : Value} {n : Nat} {xs : List Value} (h : w.ownsRow B e size v n xs) : ∀ g, v.ownBlock = some g → ∃ cur, w.heap[g]? = some (.cells cur e (0, 0)) := by
  intro g hg
  rcases h.2 with ⟨rfl, _⟩ | ⟨g', cap', cur, rfl, hb, hh, _⟩
  · simp [Value.ownBlock] at hg
  · simp [Value.ownBlock] at hg
    subst hg
    exact ⟨cur, hh⟩

/-- what readLines answers -/
def ReadAll (s : ByteArray) (w w' : World) (e : Ending) : Prop :=
  ((rd s).err ≠ 0 ∧ e = .returned (.tuple #[.slice none 0 0, .int .i64 (rd s).err, .int .i64 (rd s).at']) ∧ Below w.heap.size w w') ∨
  (∃ ls ao cap, (rd s).err = 0 ∧ (rd s).lines = bare ls ∧ ls.length ≤ 1001 ∧ 0 < ls.length ∧ e = .returned (.tuple #[.slice ao ls.length cap, .int .i64 0, .int .i64 0]) ∧ LinesAt w' (.slice ao ls.length cap) ls ∧ Below w.heap.size w w')
theorem ret_sii {a b : Option Addr} {n m c d : Nat} {x y z t : Int} (h : x = y) (h2 : z = t) (h3 : Value.slice a n c = .slice b m d) : Ending.returned (.tuple #[.slice a n c, .int .i64 x, .int .i64 z]) = .returned (.tuple #[.slice b m d, .int .i64 y, .int .i64 t]) := by rw [h, h2, h3]

end Co
end Go.Proofs.Ythkilnhdhacpaaa
