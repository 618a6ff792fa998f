
import Derived.Test.YthkilnhdhacpaaaProg
import Derived.WalkKit
import Derived.WalkSpells
import Derived.WalkLawsBesides
import Derived.BigQuiet
import Derived.Deep.QuietTactic
namespace Go.Proofs.Ythkilnhdhacpaaa
open Go.RowKit
namespace Pr

theorem ret_bool {a b : Bool} (h : a = b) : Ending.returned (.bool a) = .returned (.bool b) := by rw [h]

/-- letters alone -/
def lets (l : List UInt8) : Bool := l.all fun c => 97 ≤ c && c ≤ 122
def isNm (s : ByteArray) : Bool := decide (1 ≤ s.size) && decide (s.size ≤ 8) && lets s.data.toList
theorem take_snoc (s : ByteArray) (k : Nat) (h : k < s.size) : s.data.toList.take (k + 1) = s.data.toList.take k ++ [s[k]] := by
  rw [List.take_succ_eq_append_getElem (by simpa using h)]; rfl
theorem take_all (s : ByteArray) (k : Nat) (h : ¬ k < s.size) : s.data.toList.take k = s.data.toList := by
  refine List.take_of_length_le ?_
  have e : s.data.toList.length = s.size := by rw [Array.length_toList]; rfl
  omega
theorem lets_snoc (s : ByteArray) (k : Nat) (h : k < s.size) (hl : lets (s.data.toList.take k) = true) (h1 : (97 : Int) ≤ (s[k].toNat : Int)) (h2 : (s[k].toNat : Int) ≤ 122) :
    lets (s.data.toList.take (k + 1)) = true := by
  rw [take_snoc s k h]
  unfold lets at *
  rw [List.all_append, hl]
  simp [UInt8.le_iff_toNat_le]
  omega
theorem lets_bad (s : ByteArray) (k : Nat) (h : k < s.size) (hb : (s[k].toNat : Int) < 97 ∨ 122 < (s[k].toNat : Int)) : isNm s = false := by
  have hm : s[k] ∈ s.data.toList := by
    rw [← List.take_append_drop (k + 1) s.data.toList, take_snoc s k h]; simp
  unfold isNm
  have : lets s.data.toList = false := by
    unfold lets
    rw [List.all_eq_false]
    refine ⟨s[k], hm, ?_⟩
    simp [UInt8.le_iff_toNat_le]
    omega
  rw [this]; simp
theorem isNm_of (s : ByteArray) (k : Nat) (hk : ¬ k < s.size) (hl : lets (s.data.toList.take k) = true) : isNm s = (decide (1 ≤ s.size) && decide (s.size ≤ 8)) := by
  rw [take_all s k hk] at hl
  simp [isNm, hl]

set_option maxHeartbeats 400000 in
theorem named_any (s : ByteArray) (w : World) (hs : s.size ≤ maxLen) :
    Calls Try.prog 20 #[.string s] w fun e w' => e = .returned (.bool (isNm s)) ∧ w' = w := by
  unfold maxLen at hs
  go_enter Try.func20, Try.ntmps20
  go_wp2
  go_loop [3] (fun i => ∃ k : Nat, k ≤ s.size ∧ i = .int .i64 k ∧ lets (s.data.toList.take k) = true) (fun i => s.size - (intOf i).toNat)
  case atStart => exact ⟨0, Nat.zero_le _, rfl, rfl⟩
  case round =>
    obtain ⟨k, hk, rfl, hl⟩ := hrel
    have HL : Hid (lets (s.data.toList.take k) = true) := hl
    clear hl
    by_cases hlt : k < s.size
    · by_cases h1 : (97 : Int) ≤ (s[k].toNat : Int)
      · by_cases h2 : (s[k].toNat : Int) ≤ 122
        · go_wp2
          go_round
          case rel => exact ⟨k + 1, by omega, by go_num, lets_snoc s k hlt HL.out h1 h2⟩
          case measure => simp [intOf]; omega
        · go_wp2
          go_ret
          exact ⟨ret_bool (lets_bad s k hlt (by omega)).symm, rfl⟩
      · go_wp2
        go_ret
        exact ⟨ret_bool (lets_bad s k hlt (by omega)).symm, rfl⟩
    · have hn := isNm_of s k hlt HL.out
      have HN : Hid (isNm s = (decide (1 ≤ s.size) && decide (s.size ≤ 8))) := hn
      clear hn
      by_cases h0 : 0 < s.size
      · go_wp2
        go_ret
        exact ⟨ret_bool (by rw [HN.out, Bool.eq_iff_iff]; simp; omega), rfl⟩
      · go_wp2
        go_ret
        exact ⟨ret_bool (by rw [HN.out, Bool.eq_iff_iff]; simp; omega), rfl⟩

set_option maxHeartbeats 400000 in
theorem isName_any (s : ByteArray) (w : World) (hs : s.size ≤ maxLen) :
    Calls Try.prog 26 #[.string s] w fun e w' => e = .returned (.bool (isNm s)) ∧ w' = w := by
  unfold maxLen at hs
  by_cases ha : s.size < 1
  · go_enter Try.func26, Try.ntmps26
    go_wp2
    go_ret
    exact ⟨ret_bool (by simp [isNm]; omega), rfl⟩
  by_cases hb : 8 < s.size
  · go_enter Try.func26, Try.ntmps26
    go_wp2
    go_ret
    exact ⟨ret_bool (by simp [isNm]; omega), rfl⟩
  have hb1 : decide ((8 : Int) < (s.size : Int)) = false := by simp; omega
  have hb2 : decide ((s.size : Int) < 1) = false := by simp; omega
  go_enter Try.func26, Try.ntmps26
  go_wp2
  go_loop [3] (fun i => ∃ k : Nat, k ≤ s.size ∧ i = .int .i64 k ∧ lets (s.data.toList.take k) = true) (fun i => s.size - (intOf i).toNat)
  case atStart => exact ⟨0, Nat.zero_le _, rfl, rfl⟩
  case round =>
    obtain ⟨k, hk, rfl, hl⟩ := hrel
    have HL : Hid (lets (s.data.toList.take k) = true) := hl
    clear hl
    by_cases hlt : k < s.size
    · by_cases h1 : (97 : Int) ≤ (s[k].toNat : Int)
      · by_cases h2 : (s[k].toNat : Int) ≤ 122
        · go_wp2
          go_round
          case rel => exact ⟨k + 1, by omega, by go_num, lets_snoc s k hlt HL.out h1 h2⟩
          case measure => simp [intOf]; omega
        · go_wp2
          go_ret
          exact ⟨ret_bool (lets_bad s k hlt (by omega)).symm, rfl⟩
      · go_wp2
        go_ret
        exact ⟨ret_bool (lets_bad s k hlt (by omega)).symm, rfl⟩
    · have hn := isNm_of s k hlt HL.out
      have HN : Hid (isNm s = (decide (1 ≤ s.size) && decide (s.size ≤ 8))) := hn
      clear hn
      go_wp2
      go_ret
      exact ⟨ret_bool (by rw [HN.out, Bool.eq_iff_iff]; simp; omega), rfl⟩

/-- 'lo ≤ n ≤ hi', a Bool that the walk leaves alone -/
def inB (lo hi n : Int) : Bool := decide (lo ≤ n) && decide (n ≤ hi)
theorem inB_t {lo hi n : Int} (h : inB lo hi n = true) : lo ≤ n ∧ n ≤ hi := by simpa [inB] using h
theorem inB_mk {lo hi n : Int} (h1 : lo ≤ n) (h2 : n ≤ hi) : inB lo hi n = true := by simp [inB]; omega
theorem inB_lo {lo hi n : Int} (h1 : n < lo) : inB lo hi n = false := by simp [inB]; omega
theorem inB_hi {lo hi n : Int} (h1 : hi < n) : inB lo hi n = false := by simp [inB]; omega

set_option maxHeartbeats 400000 in
theorem between_any (n lo hi : Int) (w : World) :
    Calls Try.prog 19 #[.int .i64 n, .int .i64 lo, .int .i64 hi] w fun e w' => e = .returned (.bool (inB lo hi n)) ∧ w' = w := by
  by_cases h1 : lo ≤ n
  · go_enter Try.func19, Try.ntmps19
    go_wp2
    go_ret
    exact ⟨ret_bool (by simp [inB, h1]), rfl⟩
  · go_enter Try.func19, Try.ntmps19
    go_wp2
    go_ret
    exact ⟨ret_bool (inB_lo (by omega)).symm, rfl⟩

abbrev sBudget : ByteArray := ⟨#[98, 117, 100, 103, 101, 116]⟩
abbrev sSize : ByteArray := ⟨#[115, 105, 122, 101]⟩
abbrev sWait : ByteArray := ⟨#[119, 97, 105, 116]⟩
abbrev sFar : ByteArray := ⟨#[102, 97, 114]⟩

set_option maxHeartbeats 400000 in
theorem fits_budget (n : Int) (w : World) :
    Calls Try.prog 22 #[.string sBudget, .int .i64 n] w fun e w' => e = .returned (.bool (inB 1 99 n)) ∧ w' = w := by
  by_cases h1 : 1 ≤ n
  · go_enter Try.func22, Try.ntmps22
    go_wp2
    go_ret
    exact ⟨ret_bool (by simp [inB, h1]), rfl⟩
  · go_enter Try.func22, Try.ntmps22
    go_wp2
    go_ret
    exact ⟨ret_bool (inB_lo (by omega)).symm, rfl⟩
set_option maxHeartbeats 400000 in
theorem fits_size (n : Int) (w : World) :
    Calls Try.prog 22 #[.string sSize, .int .i64 n] w fun e w' => e = .returned (.bool (inB 0 20 n)) ∧ w' = w := by
  by_cases h1 : 0 ≤ n
  · go_enter Try.func22, Try.ntmps22
    go_wp2
    go_ret
    exact ⟨ret_bool (by simp [inB, h1]), rfl⟩
  · go_enter Try.func22, Try.ntmps22
    go_wp2
    go_ret
    exact ⟨ret_bool (inB_lo (by omega)).symm, rfl⟩
set_option maxHeartbeats 400000 in
theorem fits_wait (n : Int) (w : World) :
    Calls Try.prog 22 #[.string sWait, .int .i64 n] w fun e w' => e = .returned (.bool (inB 0 20 n)) ∧ w' = w := by
  by_cases h1 : 0 ≤ n
  · go_enter Try.func22, Try.ntmps22
    go_wp2
    go_ret
    exact ⟨ret_bool (by simp [inB, h1]), rfl⟩
  · go_enter Try.func22, Try.ntmps22
    go_wp2
    go_ret
    exact ⟨ret_bool (inB_lo (by omega)).symm, rfl⟩
set_option maxHeartbeats 400000 in
theorem fits_far (n : Int) (w : World) :
    Calls Try.prog 22 #[.string sFar, .int .i64 n] w fun e w' => e = .returned (.bool (inB 0 999 n)) ∧ w' = w := by
  by_cases h1 : 0 ≤ n
  · go_enter Try.func22, Try.ntmps22
    go_wp2
    go_ret
    exact ⟨ret_bool (by simp [inB, h1]), rfl⟩
  · go_enter Try.func22, Try.ntmps22
    go_wp2
    go_ret
    exact ⟨ret_bool (inB_lo (by omega)).symm, rfl⟩
end Pr
end Go.Proofs.Ythkilnhdhacpaaa
