
import Derived.Test.YtehehkahmpbjhaaDoorPrB
import Derived.Laws.IdiomStrings
namespace Go.Proofs.YtehehkahmpbjhaaDoor
open Go.RowKit
namespace Pr

/-- a digit; the digits of a number below 10 ^ fuel -/
def dg (n : Int) : ByteArray := ⟨#[UInt8.ofNat (48 + n % 10).toNat]⟩
def decS : Nat → Int → ByteArray
  | 0, n => dg n
  | f + 1, n => if n < 10 then dg n else decS f (n / 10) ++ dg n

theorem conv_digit (n : Int) (u : World) : (convert 44 9 (.slice (some ⟨u.heap.size, 0, none⟩) 1 1)).run Tryd.prog (u.alloc (.cells #[.int .u8 (48 + n % 10)] 5)) = .ok (.string (dg n)) (u.alloc (.cells #[.int .u8 (48 + n % 10)] 5)) := by
  have h := run_convert_bytes_back (P := Tryd.prog) (u.alloc (.cells #[.int .u8 (48 + n % 10)] 5)) 44 9 5 ⟨u.heap.size, 0, none⟩ 1 [UInt8.ofNat (48 + n % 10).toNat] Tryd.underlying44 Tryd.underlying5 Tryd.underlying9 (by
    intro j hj
    have : j = 0 := by simp at hj; exact hj
    subst this
    have e : (UInt8.ofNat (48 + n % 10).toNat).toNat = (48 + n % 10).toNat := by
      rw [UInt8.toNat_ofNat']; omega
    simp [Addr.add, e]
    omega)
  exact h

theorem ret_str {a b : ByteArray} (h : a = b) : Ending.returned (.string a) = .returned (.string b) := by rw [h]

theorem dg_size (n : Int) : (dg n).size = 1 := rfl
theorem decS_size : ∀ (f : Nat) (n : Int), (decS f n).size ≤ f + 1
  | 0, n => by simp [decS, dg_size]
  | f + 1, n => by
    unfold decS
    split
    · simp [dg_size]
    · have := decS_size f (n / 10)
      rw [ByteArray.size_append, dg_size]; omega

end Pr
end Go.Proofs.YtehehkahmpbjhaaDoor
