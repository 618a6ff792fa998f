
import Derived.Test.YtehehkahmpbjhaaDoorCoA
namespace Go.Proofs.YtehehkahmpbjhaaDoor
open Go.RowKit
namespace Co

/-- splitting: the pieces, and where the last one begins, behind i bytes -/
def spl (s : ByteArray) (c : Nat) : Nat → List ByteArray × Nat
  | 0 => ([], 0)
  | i + 1 => if (s.data.toList.getD i 0).toNat = c then ((spl s c i).1 ++ [s.extract (spl s c i).2 i], i + 1) else spl s c i
def pieces (s : ByteArray) (c : Nat) : List ByteArray := (spl s c s.size).1 ++ [s.extract (spl s c s.size).2 s.size]
theorem spl_le (s : ByteArray) (c : Nat) : ∀ i, (spl s c i).2 ≤ i ∧ (spl s c i).1.length ≤ i
  | 0 => by simp [spl]
  | i + 1 => by
    have := spl_le s c i
    unfold spl
    split
    · simp; omega
    · omega
theorem getD_at (s : ByteArray) (i : Nat) (h : i < s.size) : s.data.toList.getD i 0 = s[i] := by
  have h' : i < s.data.toList.length := by simpa using h
  rw [List.getD_eq_getElem?_getD, List.getElem?_eq_getElem h']
  rfl
theorem spl_hit (s : ByteArray) (c : Nat) (i : Nat) (h : i < s.size) (hc : s[i].toNat = c) : spl s c (i + 1) = ((spl s c i).1 ++ [s.extract (spl s c i).2 i], i + 1) := by
  rw [spl, getD_at s i h, if_pos hc]
theorem spl_miss (s : ByteArray) (c : Nat) (i : Nat) (h : i < s.size) (hc : ¬ s[i].toNat = c) : spl s c (i + 1) = spl s c i := by
  rw [spl, getD_at s i h, if_neg hc]
theorem extract_size_le (s : ByteArray) (a b : Nat) : (s.extract a b).size ≤ s.size := by
  rw [ByteArray.size_extract]; omega
theorem spl_small (s : ByteArray) (c : Nat) : ∀ i, ∀ p ∈ (spl s c i).1, p.size ≤ s.size
  | 0, p, h => by simp [spl] at h
  | i + 1, p, h => by
    rw [spl] at h
    split at h
    · rcases List.mem_append.1 h with h | h
      · exact spl_small s c i p h
      · simp at h; subst h; exact extract_size_le _ _ _
    · exact spl_small s c i p h
theorem pieces_small (s : ByteArray) (c : Nat) : ∀ p ∈ pieces s c, p.size ≤ s.size := by
  intro p h
  rcases List.mem_append.1 h with h | h
  · exact spl_small s c _ p h
  · simp at h; subst h; exact extract_size_le _ _ _
theorem pieces_len (s : ByteArray) (c : Nat) : (pieces s c).length ≤ s.size + 1 := by
  have := (spl_le s c s.size).2
  simp [pieces]; omega

theorem info_str : (Tryd.prog.info? 9).map (fun i => (i.zero, i.size, i.bytes)) = some (some (.string ⟨#[]⟩), 1, 16) := by kernel_rfl

set_option maxHeartbeats 1000000 in
theorem split_any (s : ByteArray) (c : Nat) (w : World) (hs : s.size ≤ 1000) :
    Calls Tryd.prog 26 #[.string s, .int .u8 c] w fun e w' => ∃ v, e = .returned v ∧ w'.ownsRow w.heap.size 9 1 v (pieces s c).length (strs (pieces s c)) ∧ Below w.heap.size w w' := by
  obtain ⟨i0, hi, hz0, hz1, hz2⟩ := info_parts info_str
  go_enter Tryd.func26, Tryd.ntmps26
  go_wp2_with fail
  go_loopw [5, 6, 7] (fun v f i wr => ∃ (k st n : Nat) (acc : List ByteArray), k ≤ s.size ∧ i = .int .i64 k ∧ f = .int .i64 st ∧ st ≤ k ∧ n ≤ k ∧ Hid (spl s c k = (acc, st) ∧ acc.length = n) ∧ wr.ownsRow w.heap.size 9 1 v n (strs acc) ∧ Below w.heap.size w wr) (fun _ _ i _ => s.size - (intOf i).toNat)
  case atStart => exact ⟨0, 0, 0, [], Nat.zero_le _, rfl, rfl, Nat.le_refl _, Nat.le_refl _, ⟨rfl, rfl⟩, World.ownsRow_made w #[] 0 (Nat.le_refl _) (Nat.zero_le _) rfl, nx_alloc _ _⟩
  case round =>
    obtain ⟨k, st, n, acc, hk, rfl, rfl, hst, hn, HS, hown, hbel⟩ := hrel
    have hBw : w.heap.size ≤ wr.heap.size := hbel.size
    by_cases hlt : k < s.size
    · by_cases hc : s[k].toNat = c
      · have hcb : ((s[k].toNat : Int) == (c : Int)) = true := by simp [hc]
        have HC : Hid (s[k].toNat = c) := hc
        clear hc
        go_wp2_with (at_builtin; refine wpList_append_own _ rfl (.tmp 20) (.tmp 25) 41 rfl w.heap.size 9 i0 (.string ⟨#[]⟩) 1 16 Tryd.underlying41 hi hz0 hz1 hz2 rfl (by decide) _ _ _ rfl (hown.alloc _) ⟨wr.heap.size, 0, none⟩ 1 1 [.string (s.extract st k)] rfl rfl (cell_one_new _ _ _) ?c2 ?c3 ?c4 ?c5 ?next)
        case c2 => intro u hu; simp at hu; subst hu; rfl
        case c3 => unfold maxLen; omega
        case c4 => omega
        case c5 => simp; omega
        case next =>
          intro v' w1 hown' hgrow _
          have R : w1.ownsRow w.heap.size 9 1 v' (n + 1) (strs (acc ++ [s.extract st k])) ∧ Below w.heap.size w w1 := by
            refine ⟨by simpa [strs] using hown', (hbel.alloc hBw _).grown hgrow (by simp; omega) (fun g hg => (hown.lt g hg).1)⟩
          clear hown' hgrow hown hbel
          go_wp2_with fail
          go_roundw
          case rel => exact ⟨k + 1, k + 1, n + 1, acc ++ [s.extract st k], by omega, by go_num, by go_num, Nat.le_refl _, by omega, ⟨(by rw [spl_hit s c k hlt HC.out, HS.out.1]), by simp [HS.out.2]⟩, R.1, R.2⟩
          case measure => simp [intOf]; omega
      · have hcb : ((s[k].toNat : Int) == (c : Int)) = false := by simp; omega
        have HC : Hid (¬ s[k].toNat = c) := hc
        clear hc
        go_wp2_with fail
        go_roundw
        case rel => exact ⟨k + 1, st, n, acc, by omega, by go_num, rfl, by omega, by omega, ⟨(by rw [spl_miss s c k hlt HC.out, HS.out.1]), HS.out.2⟩, hown, hbel⟩
        case measure => simp [intOf]; omega
    · obtain rfl : k = s.size := by omega
      have HP : Hid (pieces s c = acc ++ [s.extract st s.size] ∧ (pieces s c).length = n + 1) := by
        have e : pieces s c = acc ++ [s.extract st s.size] := by rw [pieces, HS.out.1]
        exact ⟨e, by rw [e]; simp [HS.out.2]⟩
      go_wp2_with (at_builtin; refine wpList_append_own _ rfl (.tmp 29) (.tmp 33) 41 rfl w.heap.size 9 i0 (.string ⟨#[]⟩) 1 16 Tryd.underlying41 hi hz0 hz1 hz2 rfl (by decide) _ _ _ rfl (hown.alloc _) ⟨wr.heap.size, 0, none⟩ 1 1 [.string (s.extract st s.size)] rfl rfl (cell_one_new _ _ _) ?d2 ?d3 ?d4 ?d5 ?last)
      case d2 => intro u hu; simp at hu; subst hu; rfl
      case d3 => unfold maxLen; omega
      case d4 => omega
      case d5 => simp; omega
      case last =>
        intro v' w1 hown' hgrow _
        have R : w1.ownsRow w.heap.size 9 1 v' (n + 1) (strs (acc ++ [s.extract st s.size])) ∧ Below w.heap.size w w1 := by
          refine ⟨by simpa [strs] using hown', (hbel.alloc hBw _).grown hgrow (by simp; omega) (fun g hg => (hown.lt g hg).1)⟩
        clear hown' hgrow hown hbel
        go_wp2_with fail
        go_ret
        exact ⟨_, rfl, (by rw [HP.out.2, HP.out.1]; exact R.1), R.2⟩

end Co
end Go.Proofs.YtehehkahmpbjhaaDoor
