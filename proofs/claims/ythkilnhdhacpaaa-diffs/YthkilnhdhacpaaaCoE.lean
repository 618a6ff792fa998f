
import Derived.Test.YthkilnhdhacpaaaCoC
import Derived.Test.YthkilnhdhacpaaaCoD
import Derived.Deep.RegionWith
namespace Go.Proofs.Ythkilnhdhacpaaa
open Go.RowKit
namespace Co

theorem cells_new (w : World) (cs : List Value) (t : TypeId) : ∀ (j : Nat) (u : Value), cs[j]? = some u → (w.alloc (.cells cs.toArray t)).cell? ((⟨w.heap.size, 0, none⟩ : Addr).add j) = some u := by
  intro j u hj
  have e : (⟨w.heap.size, 0, none⟩ : Addr).add j = ⟨w.heap.size, j, none⟩ := by unfold Addr.add; split <;> simp_all
  rw [e, World.cell?_alloc_new]
  simpa using hj

theorem set_blk (w : World) (g b a c : Nat) (v : Value) (h : g ≠ b) : (w.setCell ⟨g, a, none⟩ v).cell? ⟨b, c, none⟩ = w.cell? ⟨b, c, none⟩ :=
  World.cell?_setCell_other _ _ _ _ (by intro e; injection e with e1 e2 e3; exact h e1)
theorem RowAt.set {w : World} {so : Option Addr} {m sc n : Nat} {cs : List Value} (h : RowAt w (.slice so m sc) n cs) {g : Nat} (hg : ∀ b off, so = some ⟨b, off, none⟩ → g ≠ b) (a : Nat) (x : Value) : RowAt (w.setCell ⟨g, a, none⟩ x) (.slice so m sc) n cs := by
  obtain ⟨ao, cap, e, hc, h⟩ := h
  refine ⟨ao, cap, e, hc, ?_⟩
  rcases h with h | ⟨b, off, h1, h2, h3⟩
  · exact .inl h
  · refine .inr ⟨b, off, h1, by simpa using h2, fun j y hy => ?_⟩
    simp only [Value.slice.injEq] at e
    rw [set_blk _ _ _ _ _ _ (hg b off (e.1.trans h1))]; exact h3 j y hy
theorem RowAt.drew {w : World} {v : Value} {n : Nat} {cs : List Value} (h : RowAt w v n cs) : RowAt w.drew v n cs := h
theorem row_drop {w : World} {bl off n cap : Nat} {fs : List ByteArray} (k : Nat) (h : RowAt w (.slice (some ⟨bl, off, none⟩) n cap) n (strs fs)) (hl : fs.length = n) (hk : k ≤ n) :
    RowAt w (.slice (if cap = k then some ⟨bl, off, none⟩ else some ⟨bl, off + k, none⟩) (n - k) (cap - k)) (n - k) (strs (fs.drop k)) := by
  obtain ⟨ao, cap', e, hc, h⟩ := h
  simp only [Value.slice.injEq] at e
  obtain ⟨rfl, _, rfl⟩ := e
  by_cases hck : cap = k
  · rw [if_pos hck]
    have : fs.drop k = [] := List.drop_of_length_le (by omega)
    rw [this]
    exact ⟨_, _, rfl, by omega, .inl rfl⟩
  · rw [if_neg hck]
    refine ⟨_, _, rfl, by omega, ?_⟩
    rcases h with h | ⟨b, o, h1, h2, h3⟩
    · have : fs = [] := by simpa [strs] using h
      subst this
      exact .inl (by simp [strs])
    · simp only [Option.some.injEq, Addr.mk.injEq, and_true] at h1
      obtain ⟨rfl, rfl⟩ := h1
      refine .inr ⟨bl, off + k, rfl, h2, fun j x hx => ?_⟩
      have := h3 (k + j) x (by simpa [strs] using hx)
      rw [Nat.add_assoc]; exact this
theorem row_len {w : World} {so : Option Addr} {m sc n : Nat} {cs : List Value} (h : RowAt w (.slice so m sc) n cs) : n ≤ sc := by
  obtain ⟨_, _, e, hc, _⟩ := h
  simp only [Value.slice.injEq] at e
  omega

/-- a line of a text: its kind (1 budget, 2 base, 3 pool), its names, its keys and numbers, its place -/
structure Ln where
  kind : Nat
  name : ByteArray
  frm : ByteArray
  sets : List (Nat × Nat)
  place : Nat
def wordB (k : Nat) : ByteArray := ⟨(kwL k).toArray⟩
theorem keyF_word {s : ByteArray} {k : Nat} (h : keyF s = some k) : s = wordB k ∧ k ≤ 2 := by
  have hx : ∀ l : List UInt8, (s.toList == l) = true → s = ⟨l.toArray⟩ := by
    intro l hl
    apply ba_ext
    rw [← ByteArray.toList_eq]
    simpa using hl
  unfold keyF at h
  split at h
  · rename_i h0; cases h; exact ⟨hx _ h0, by omega⟩
  · split at h
    · rename_i h0; cases h; exact ⟨hx _ h0, by omega⟩
    · split at h
      · rename_i h0; cases h; exact ⟨hx _ h0, by omega⟩
      · cases h
def flatS : List (Nat × Nat) → List Value
  | [] => []
  | p :: r => .string (wordB p.1) :: .int .i64 (p.2 : Int) :: flatS r
theorem flatS_append : ∀ a b : List (Nat × Nat), flatS (a ++ b) = flatS a ++ flatS b
  | [], b => rfl
  | p :: a, b => by simp [flatS, flatS_append a b]
theorem flatS_len : ∀ a : List (Nat × Nat), (flatS a).length = a.length * 2
  | [] => rfl
  | p :: a => by simp [flatS, flatS_len a]; omega
def setsF : List ByteArray → Option (List (Nat × Nat))
  | [] => some []
  | [_] => none
  | k :: n :: r => match keyF k, numF n, setsF r with
    | some a, some b, some l => some ((a, b) :: l)
    | _, _, _ => none
theorem setsF_odd : ∀ (l : List ByteArray), l.length % 2 = 1 → setsF l = none
  | [], h => by simp at h
  | [_], _ => rfl
  | k :: n :: r, h => by
    have := setsF_odd r (by simp at h; omega)
    rw [setsF, this]
    cases keyF k <;> cases numF n <;> rfl
theorem setsF_len : ∀ (l : List ByteArray) (ss : List (Nat × Nat)), setsF l = some ss → ss.length * 2 = l.length
  | [], ss, h => by cases h; rfl
  | [_], ss, h => by cases h
  | k :: n :: r, ss, h => by
    rw [setsF] at h
    split at h
    · rename_i a b l h1 h2 h3
      cases h
      have := setsF_len r l h3
      simp; omega
    · cases h
theorem setsF_go {k n : ByteArray} {r : List ByteArray} {a b : Nat} (h1 : keyF k = some a) (h2 : numF n = some b) : setsF (k :: n :: r) = (setsF r).map ((a, b) :: ·) := by
  rw [setsF, h1, h2]
  cases setsF r <;> rfl
theorem setsF_nk {k n : ByteArray} {r : List ByteArray} (h1 : keyF k = none) : setsF (k :: n :: r) = none := by
  rw [setsF, h1]
theorem setsF_nn {k n : ByteArray} {r : List ByteArray} (h1 : numF n = none) : setsF (k :: n :: r) = none := by
  rw [setsF, h1]
  cases keyF k <;> rfl

theorem ret_sb {a : Option Addr} {n m c : Nat} {b : Bool} (h : n = m) : Ending.returned (.tuple #[.slice a n c, .bool b]) = .returned (.tuple #[.slice a m c, .bool b]) := by rw [h]
end Co
end Go.Proofs.Ythkilnhdhacpaaa
