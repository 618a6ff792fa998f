
import Derived.Test.YthkilnhdhacpaaaCoA
namespace Go.Proofs.Ythkilnhdhacpaaa
open Go.RowKit
namespace Co

/-- numbers -/
def digs (l : List UInt8) : Bool := l.all fun c => 48 ≤ c && c ≤ 57
def numV (l : List UInt8) : Nat := l.foldl (fun a c => a * 10 + (c.toNat - 48)) 0
def isNum (s : ByteArray) : Bool := decide (1 ≤ s.size) && decide (s.size ≤ 4) && digs s.data.toList
def numF (s : ByteArray) : Option Nat := if isNum s then some (numV s.data.toList) else none
theorem numV_snoc (l : List UInt8) (c : UInt8) : numV (l ++ [c]) = numV l * 10 + (c.toNat - 48) := by simp [numV]
theorem digs_snoc (s : ByteArray) (k : Nat) (h : k < s.size) (hl : digs (s.data.toList.take k) = true) (h1 : (48 : Int) ≤ (s[k].toNat : Int)) (h2 : (s[k].toNat : Int) ≤ 57) :
    digs (s.data.toList.take (k + 1)) = true := by
  rw [take_snoc s k h]
  unfold digs at *
  rw [List.all_append, hl]
  simp [UInt8.le_iff_toNat_le]
  omega
theorem digs_bad (s : ByteArray) (k : Nat) (h : k < s.size) (hb : (s[k].toNat : Int) < 48 ∨ 57 < (s[k].toNat : Int)) : isNum s = false := by
  have hm : s[k] ∈ s.data.toList := by
    rw [← List.take_append_drop (k + 1) s.data.toList, take_snoc s k h]; simp
  unfold isNum
  have : digs s.data.toList = false := by
    unfold digs
    rw [List.all_eq_false]
    refine ⟨s[k], hm, ?_⟩
    simp [UInt8.le_iff_toNat_le]
    omega
  rw [this]; simp
theorem numF_no {s : ByteArray} (h : isNum s = false) : numF s = none := by simp [numF, h]
theorem numF_yes {s : ByteArray} {k : Nat} (h1 : 1 ≤ s.size) (h2 : s.size ≤ 4) (hk : ¬ k < s.size) (hl : digs (s.data.toList.take k) = true) : numF s = some (numV (s.data.toList.take k)) := by
  rw [take_all s k hk] at hl ⊢
  simp [numF, isNum, h1, h2, hl]

def numN (s : ByteArray) : Int := match numF s with | some n => n | none => 0
def numB (s : ByteArray) : Bool := (numF s).isSome
def numR (s : ByteArray) : Int := match numF s with | some n => n | none => -1
theorem ret_ib {a b : Int} {x y : Bool} (h : a = b) (h2 : x = y) : Ending.returned (.tuple #[.int .i64 a, .bool x]) = .returned (.tuple #[.int .i64 b, .bool y]) := by rw [h, h2]
theorem ret_i {a b : Int} (h : a = b) : Ending.returned (.int .i64 a) = .returned (.int .i64 b) := by rw [h]

/-- keys -/
def kwL (k : Nat) : List UInt8 := match k with | 0 => [115, 105, 122, 101] | 1 => [119, 97, 105, 116] | 2 => [102, 97, 114] | _ => [98, 117, 100, 103, 101, 116]
def keyF (s : ByteArray) : Option Nat := if s.toList == kwL 0 then some 0 else if s.toList == kwL 1 then some 1 else if s.toList == kwL 2 then some 2 else none
def keyB (s : ByteArray) : Bool := (keyF s).isSome
def keyR (s : ByteArray) : Int := match keyF s with | some k => k | none => -1

end Co
end Go.Proofs.Ythkilnhdhacpaaa
