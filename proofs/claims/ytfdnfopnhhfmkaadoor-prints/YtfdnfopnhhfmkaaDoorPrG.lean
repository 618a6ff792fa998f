
import Derived.Test.YtfdnfopnhhfmkaaDoorPrB
import Derived.Laws.IdiomStrings
namespace Go.Proofs.YtfdnfopnhhfmkaaDoor
open Go.RowKit
namespace Pr

/-- a digit; the digits of a number below 10 ^ fuel -/
def dg (n : Int) : ByteArray := ⟨#[UInt8.ofNat (48 + n % 10).toNat]⟩
def decS : Nat → Int → ByteArray
  | 0, n => dg n
  | f + 1, n => if n < 10 then dg n else decS f (n / 10) ++ dg n

theorem conv_digit (n : Int) (u : World) : (convert 41 9 (.slice (some ⟨u.heap.size, 0, none⟩) 1 1)).run Tryd.prog (u.alloc (.cells #[.int .u8 (48 + n % 10)] 5)) = .ok (.string (dg n)) (u.alloc (.cells #[.int .u8 (48 + n % 10)] 5)) := by
  have h := run_convert_bytes_back (P := Tryd.prog) (u.alloc (.cells #[.int .u8 (48 + n % 10)] 5)) 41 9 5 ⟨u.heap.size, 0, none⟩ 1 [UInt8.ofNat (48 + n % 10).toNat] Tryd.underlying41 Tryd.underlying5 Tryd.underlying9 (by
    intro j hj
    have : j = 0 := by simp at hj; exact hj
    subst this
    have e : (UInt8.ofNat (48 + n % 10).toNat).toNat = (48 + n % 10).toNat := by
      rw [UInt8.toNat_ofNat']; omega
    simp [Addr.add, e]
    omega)
  exact h

theorem ret_str {a b : ByteArray} (h : a = b) : Ending.returned (.string a) = .returned (.string b) := by rw [h]

theorem dg_size (n : Int) : (dg n).size = 1 := rfl
theorem decS_size : ∀ (f : Nat) (n : Int), (decS f n).size ≤ f + 1
  | 0, n => by simp [decS, dg_size]
  | f + 1, n => by
    unfold decS
    split
    · simp [dg_size]
    · have := decS_size f (n / 10)
      rw [ByteArray.size_append, dg_size]; omega

set_option maxHeartbeats 400000 in
theorem dec_any (f : Nat) : ∀ (n : Int) (w : World), 0 ≤ n → n < 10 ^ (f + 1) → f ≤ 3 →
    Calls Tryd.prog 12 #[.int .i64 n] w fun e w' => e = .returned (.string (decS f n)) ∧ Below w.heap.size w w' := by
  induction f with
  | zero =>
    intro n w h0 h1 _
    have h1' : n < 10 := by simpa using h1
    clear h1
    have hcv := conv_digit n
    go_enter Tryd.func12, Tryd.ntmps12
    go_wp2_with fail
    go_ret
    exact ⟨rfl, nx_alloc _ _⟩
  | succ f ih =>
    intro n w h0 h1 hf
    have IH := show Hid _ from ih
    clear ih
    have hcv := conv_digit n
    have hub : n ≤ 99999 := by
      have : (10 : Int) ^ (f + 1 + 1) ≤ 10 ^ (3 + 1) := by
        exact_mod_cast Nat.pow_le_pow_right (by decide) (by omega : f + 1 + 1 ≤ 3 + 1)
      omega
    have H1 : Hid (n < 10 ^ (f + 1 + 1)) := h1
    clear h1
    by_cases h10 : n < 10
    · go_enter Tryd.func12, Tryd.ntmps12
      go_wp2_with fail
      go_ret
      exact ⟨ret_str (by simp [decS, h10]), nx_alloc _ _⟩
    · have hsz := decS_size f (n / 10)
      have hdg := dg_size n
      go_enter Tryd.func12, Tryd.ntmps12
      go_wp2_with fail
      refine (IH.out (n / 10) _ ?_ ?_ (by omega)).mono ?_
      · omega
      · have := H1.out
        rw [Int.pow_succ] at this
        omega
      rintro e w1 ⟨rfl, hb1⟩
      go_wp2_with fail
      go_ret
      exact ⟨ret_str (by rw [decS, if_neg (by omega)]), nx_trans (nx_alloc _ _) hb1⟩
end Pr
end Go.Proofs.YtfdnfopnhhfmkaaDoor
