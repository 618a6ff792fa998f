
import Derived.Test.YthkilnhdhacpaaaCoA
namespace Go.Proofs.Ythkilnhdhacpaaa
open Go.RowKit
namespace Co

/-- splitting: the pieces, and where the last one begins, behind i bytes -/
def spl (s : ByteArray) (c : Nat) : Nat → List ByteArray × Nat
  | 0 => ([], 0)
  | i + 1 => if (s.data.toList.getD i 0).toNat = c then ((spl s c i).1 ++ [s.extract (spl s c i).2 i], i + 1) else spl s c i
def pieces (s : ByteArray) (c : Nat) : List ByteArray := (spl s c s.size).1 ++ [s.extract (spl s c s.size).2 s.size]
theorem spl_le (s : ByteArray) (c : Nat) : ∀ i, (spl s c i).2 ≤ i ∧ (spl s c i).1.length ≤ i
  | 0 => by simp [spl]
  | i + 1 => by
    have := spl_le s c i
    unfold spl
    split
    · simp; omega
    · omega
theorem getD_at (s : ByteArray) (i : Nat) (h : i < s.size) : s.data.toList.getD i 0 = s[i] := by
  have h' : i < s.data.toList.length := by simpa using h
  rw [List.getD_eq_getElem?_getD, List.getElem?_eq_getElem h']
  rfl
theorem spl_hit (s : ByteArray) (c : Nat) (i : Nat) (h : i < s.size) (hc : s[i].toNat = c) : spl s c (i + 1) = ((spl s c i).1 ++ [s.extract (spl s c i).2 i], i + 1) := by
  rw [spl, getD_at s i h, if_pos hc]
theorem spl_miss (s : ByteArray) (c : Nat) (i : Nat) (h : i < s.size) (hc : ¬ s[i].toNat = c) : spl s c (i + 1) = spl s c i := by
  rw [spl, getD_at s i h, if_neg hc]
theorem extract_size_le (s : ByteArray) (a b : Nat) : (s.extract a b).size ≤ s.size := by
  rw [ByteArray.size_extract]; omega
theorem spl_small (s : ByteArray) (c : Nat) : ∀ i, ∀ p ∈ (spl s c i).1, p.size ≤ s.size
  | 0, p, h => by simp [spl] at h
  | i + 1, p, h => by
    rw [spl] at h
    split at h
    · rcases List.mem_append.1 h with h | h
      · exact spl_small s c i p h
      · simp at h; subst h; exact extract_size_le _ _ _
    · exact spl_small s c i p h
theorem pieces_small (s : ByteArray) (c : Nat) : ∀ p ∈ pieces s c, p.size ≤ s.size := by
  intro p h
  rcases List.mem_append.1 h with h | h
  · exact spl_small s c _ p h
  · simp at h; subst h; exact extract_size_le _ _ _
theorem pieces_len (s : ByteArray) (c : Nat) : (pieces s c).length ≤ s.size + 1 := by
  have := (spl_le s c s.size).2
  simp [pieces]; omega

theorem info_str : (Try.prog.info? 9).map (fun i => (i.zero, i.size, i.bytes)) = some (some (.string ⟨#[]⟩), 1, 16) := by kernel_rfl

end Co
end Go.Proofs.Ythkilnhdhacpaaa
