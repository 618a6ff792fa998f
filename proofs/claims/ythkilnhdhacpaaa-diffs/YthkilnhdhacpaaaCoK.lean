
import Derived.Test.YthkilnhdhacpaaaCoF
import Derived.Test.YthkilnhdhacpaaaCoJ
namespace Go.Proofs.Ythkilnhdhacpaaa
open Go.RowKit
namespace Co

theorem parseF_kind {fs : List ByteArray} {l : Ln} (h : parseF fs = some l) : 1 ≤ l.kind ∧ l.kind ≤ 3 ∧ l.sets.length ≤ fs.length := by
  have hnamed : ∀ (kind : Nat) (r : List ByteArray) (l : Ln), namedF kind r = some l → l.kind = kind ∧ l.sets.length ≤ r.length := by
    intro kind r l h
    match r, h with
    | [], h => simp [namedF] at h
    | nm :: r, h =>
      rw [namedF.eq_def] at h
      simp only at h
      split at h
      · split at h
        · cases h; exact ⟨rfl, by simp⟩
        · split at h
          · split at h
            · cases h
            · split at h
              · rename_i r3 _
                cases hs : setsF r3 with
                | none => rw [hs] at h; cases h
                | some ss =>
                  rw [hs] at h
                  cases h
                  have := setsF_len _ _ hs
                  refine ⟨rfl, ?_⟩
                  simp; omega
              · cases h
          · rename_i fw r2 _
            cases hs : setsF (fw :: r2) with
            | none => rw [hs] at h; cases h
            | some ss =>
              rw [hs] at h
              cases h
              have := setsF_len _ _ hs
              refine ⟨rfl, ?_⟩
              simp at this ⊢; omega
      · cases h
  match fs, h with
  | [], h => simp [parseF] at h
  | f0 :: rest, h =>
    rw [parseF] at h
    split at h
    · match rest, h with
      | [], h => simp [budF] at h
      | [a], h =>
        simp only [budF] at h
        cases hs : numF a with
        | none => rw [hs] at h; cases h
        | some b => rw [hs] at h; cases h; simp
      | a :: b :: r, h => simp [budF] at h
    · split at h
      · obtain ⟨h1, h2⟩ := hnamed 2 rest l h
        simp; omega
      · split at h
        · obtain ⟨h1, h2⟩ := hnamed 3 rest l h
          simp; omega
        · cases h

theorem st5_below {B : Nat} {w0 w : World} {g : Nat} (h : Below B w0 w) (hg : B ≤ g) (v0 v1 v2 v3 v4 : Value) : Below B w0 (((((w.setCell ⟨g, 0, none⟩ v0).setCell ⟨g, 1, none⟩ v1).setCell ⟨g, 2, none⟩ v2).setCell ⟨g, 3, none⟩ v3).setCell ⟨g, 4, none⟩ v4) :=
  ((((h.setCell hg _).setCell hg _).setCell hg _).setCell hg _).setCell hg _
theorem st5_row {w : World} {so : Option Addr} {m sc n : Nat} {cs : List Value} {g : Nat} (h : RowAt w (.slice so m sc) n cs) (hg : ∀ b off, so = some ⟨b, off, none⟩ → g ≠ b) (v0 v1 v2 v3 v4 : Value) : RowAt (((((w.setCell ⟨g, 0, none⟩ v0).setCell ⟨g, 1, none⟩ v1).setCell ⟨g, 2, none⟩ v2).setCell ⟨g, 3, none⟩ v3).setCell ⟨g, 4, none⟩ v4) (.slice so m sc) n cs :=
  ((((h.set hg _ _).set hg _ _).set hg _ _).set hg _ _).set hg _ _

/-- what readLine answers: the line and its fault -/
def readN (ls : List (Ln × Value)) (fs : List ByteArray) : Nat := match parseF fs with | none => 2 | some l => faultN ls l
end Co
end Go.Proofs.Ythkilnhdhacpaaa
