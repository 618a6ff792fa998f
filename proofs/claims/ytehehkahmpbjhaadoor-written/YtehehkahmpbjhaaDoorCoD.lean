
import Derived.Test.YtehehkahmpbjhaaDoorCoA
namespace Go.Proofs.YtehehkahmpbjhaaDoor
open Go.RowKit
namespace Co

/-- numbers -/
def digs (l : List UInt8) : Bool := l.all fun c => 48 ≤ c && c ≤ 57
def numV (l : List UInt8) : Nat := l.foldl (fun a c => a * 10 + (c.toNat - 48)) 0
def isNum (s : ByteArray) : Bool := decide (1 ≤ s.size) && decide (s.size ≤ 4) && digs s.data.toList
def numF (s : ByteArray) : Option Nat := if isNum s then some (numV s.data.toList) else none
theorem numV_snoc (l : List UInt8) (c : UInt8) : numV (l ++ [c]) = numV l * 10 + (c.toNat - 48) := by simp [numV]
theorem digs_snoc (s : ByteArray) (k : Nat) (h : k < s.size) (hl : digs (s.data.toList.take k) = true) (h1 : (48 : Int) ≤ (s[k].toNat : Int)) (h2 : (s[k].toNat : Int) ≤ 57) :
    digs (s.data.toList.take (k + 1)) = true := by
  rw [take_snoc s k h]
  unfold digs at *
  rw [List.all_append, hl]
  simp [UInt8.le_iff_toNat_le]
  omega
theorem digs_bad (s : ByteArray) (k : Nat) (h : k < s.size) (hb : (s[k].toNat : Int) < 48 ∨ 57 < (s[k].toNat : Int)) : isNum s = false := by
  have hm : s[k] ∈ s.data.toList := by
    rw [← List.take_append_drop (k + 1) s.data.toList, take_snoc s k h]; simp
  unfold isNum
  have : digs s.data.toList = false := by
    unfold digs
    rw [List.all_eq_false]
    refine ⟨s[k], hm, ?_⟩
    simp [UInt8.le_iff_toNat_le]
    omega
  rw [this]; simp
theorem numF_no {s : ByteArray} (h : isNum s = false) : numF s = none := by simp [numF, h]
theorem numF_yes {s : ByteArray} {k : Nat} (h1 : 1 ≤ s.size) (h2 : s.size ≤ 4) (hk : ¬ k < s.size) (hl : digs (s.data.toList.take k) = true) : numF s = some (numV (s.data.toList.take k)) := by
  rw [take_all s k hk] at hl ⊢
  simp [numF, isNum, h1, h2, hl]

def numN (s : ByteArray) : Int := match numF s with | some n => n | none => 0
def numB (s : ByteArray) : Bool := (numF s).isSome
def numR (s : ByteArray) : Int := match numF s with | some n => n | none => -1
theorem ret_ib {a b : Int} {x y : Bool} (h : a = b) (h2 : x = y) : Ending.returned (.tuple #[.int .i64 a, .bool x]) = .returned (.tuple #[.int .i64 b, .bool y]) := by rw [h, h2]
theorem ret_i {a b : Int} (h : a = b) : Ending.returned (.int .i64 a) = .returned (.int .i64 b) := by rw [h]

set_option maxHeartbeats 1000000 in
theorem parseNumber_any (s : ByteArray) (w : World) (hs : s.size ≤ 1000) :
    Calls Tryd.prog 51 #[.string s] w fun e w' => e = .returned (.tuple #[.int .i64 (numN s), .bool (numB s)]) ∧ w' = w := by
  by_cases ha : s.size < 1
  · have hn : numF s = none := numF_no (by simp [isNum]; omega)
    go_enter Tryd.func51, Tryd.ntmps51
    go_wp2_with fail
    go_ret2
    exact ⟨ret_ib (by simp [numN, hn]) (by simp [numB, hn]), rfl⟩
  by_cases hb : 4 < s.size
  · have hn : numF s = none := numF_no (by simp [isNum]; omega)
    go_enter Tryd.func51, Tryd.ntmps51
    go_wp2_with fail
    go_ret2
    exact ⟨ret_ib (by simp [numN, hn]) (by simp [numB, hn]), rfl⟩
  have hb1 : decide ((4 : Int) < (s.size : Int)) = false := by simp; omega
  have hb2 : decide ((s.size : Int) < 1) = false := by simp; omega
  go_enter Tryd.func51, Tryd.ntmps51
  go_wp2_with fail
  go_loop [4, 5] (fun x i => ∃ (k : Nat) (a : Int), k ≤ s.size ∧ i = .int .i64 k ∧ x = .int .i64 a ∧ Hid (digs (s.data.toList.take k) = true ∧ a = (numV (s.data.toList.take k) : Int)) ∧ 0 ≤ a ∧ Hid (a < 10 ^ k)) (fun _ i => s.size - (intOf i).toNat)
  case atStart => exact ⟨0, 0, Nat.zero_le _, rfl, rfl, ⟨rfl, rfl⟩, by omega, (by show (0 : Int) < 10 ^ 0; decide)⟩
  case round =>
    obtain ⟨k, a, hk, rfl, rfl, HD, h0, H10⟩ := hrel
    have h4 : a ≤ 10000 := by
      have h := H10.out
      have hk4 : k ≤ 4 := by omega
      have : (10 : Int) ^ k ≤ 10 ^ 4 := by exact_mod_cast Nat.pow_le_pow_right (by decide) hk4
      omega
    by_cases hlt : k < s.size
    · by_cases h1 : (48 : Int) ≤ (s[k].toNat : Int)
      · by_cases h2 : (s[k].toNat : Int) ≤ 57
        · go_wp2_with fail
          go_round
          case rel => exact ⟨k + 1, _, by omega, by go_num, rfl, ⟨digs_snoc s k hlt HD.out.1 h1 h2, (by rw [take_snoc s k hlt, numV_snoc, HD.out.2]; omega)⟩, by omega, (by
            show _ < _
            have h := H10.out
            rw [Int.pow_succ]
            omega)⟩
          case measure => simp [intOf]; omega
        · have hn : Hid (numF s = none) := numF_no (digs_bad s k hlt (by omega))
          go_wp2_with fail
          go_ret2
          exact ⟨ret_ib (by simp [numN, hn.out]) (by simp [numB, hn.out]), rfl⟩
      · have hn : Hid (numF s = none) := numF_no (digs_bad s k hlt (by omega))
        go_wp2_with fail
        go_ret2
        exact ⟨ret_ib (by simp [numN, hn.out]) (by simp [numB, hn.out]), rfl⟩
    · have hn : Hid (numF s = some (numV (s.data.toList.take k))) := numF_yes (by omega) (by omega) hlt HD.out.1
      go_wp2_with fail
      go_ret2
      exact ⟨ret_ib (by simp [numN, hn.out, HD.out.2]) (by simp [numB, hn.out]), rfl⟩

/-- keys -/
def kwL (k : Nat) : List UInt8 := match k with | 0 => [115, 105, 122, 101] | 1 => [119, 97, 105, 116] | 2 => [102, 97, 114] | _ => [98, 117, 100, 103, 101, 116]
def keyF (s : ByteArray) : Option Nat := if s.toList == kwL 0 then some 0 else if s.toList == kwL 1 then some 1 else if s.toList == kwL 2 then some 2 else none
def keyB (s : ByteArray) : Bool := (keyF s).isSome
def keyR (s : ByteArray) : Int := match keyF s with | some k => k | none => -1

set_option maxHeartbeats 400000 in
theorem isKey_any (s : ByteArray) (w : World) :
    Calls Tryd.prog 58 #[.string s] w fun e w' => e = .returned (.bool (keyB s)) ∧ w' = w := by
  cases h0 : s.toList == [115, 105, 122, 101]
  · cases h1 : s.toList == [119, 97, 105, 116]
    · cases h2 : s.toList == [102, 97, 114]
      all_goals
        go_enter Tryd.func58, Tryd.ntmps58
        go_wp2_with fail
        go_ret
        exact ⟨ret_bool (by simp [keyB, keyF, kwL, h0, h1, h2]), rfl⟩
    · go_enter Tryd.func58, Tryd.ntmps58
      go_wp2_with fail
      go_ret
      exact ⟨ret_bool (by simp [keyB, keyF, kwL, h0, h1]), rfl⟩
  · go_enter Tryd.func58, Tryd.ntmps58
    go_wp2_with fail
    go_ret
    exact ⟨ret_bool (by simp [keyB, keyF, kwL, h0]), rfl⟩
end Co
end Go.Proofs.YtehehkahmpbjhaaDoor
