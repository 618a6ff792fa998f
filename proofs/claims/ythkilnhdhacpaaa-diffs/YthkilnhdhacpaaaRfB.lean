
import Derived.Test.YthkilnhdhacpaaaRfA
namespace Go.Proofs.Ythkilnhdhacpaaa
open Go.RowKit
namespace Lw
open Co

set_option maxRecDepth 20000 in
set_option maxHeartbeats 1000000 in
theorem rAt (b : Int) (p1 : Option Addr) (n1 p2 : Nat) (name : ByteArray) (ps : List Pl) (w : World) (hr : RowAt w (.slice p1 n1 p2) n1 (flatP ps)) (hn : ps.length = n1) (hlen : n1 ≤ maxLen) :
    Calls Try.prog 30 #[.agg #[.int .i64 b, .slice p1 n1 p2], .string name] w fun e w' => e = .returned (.int .i64 (optI (ps.findIdx? (isNameP name)))) ∧ Below w.heap.size w w' := by
  unfold maxLen at hlen
  have HR : Hid (RowAt (w.alloc (bTab b (.slice p1 n1 p2))) (.slice p1 n1 p2) n1 (flatP ps) ∧ ps.length = n1 ∧ (w.alloc (bTab b (.slice p1 n1 p2))).heap[w.heap.size]? = some (bTab b (.slice p1 n1 p2))) := ⟨hr.nx (nx_alloc _ _), hn, heap_alloc_at _ _ rfl⟩
  clear hr hn
  go_enter Try.func30, Try.ntmps30
  go_wp2_with fail
  go_loopw [5] (fun i wr => ∃ k : Nat, k ≤ n1 ∧ i = .int .i64 k ∧ Hid (∀ y ∈ ps.take k, (isNameP name) y = false) ∧ Below (w.alloc (bTab b (.slice p1 n1 p2))).heap.size (w.alloc (bTab b (.slice p1 n1 p2))) wr) (fun i _ => n1 - (intOf i).toNat)
  case atStart => exact ⟨0, Nat.zero_le _, rfl, by intro y hy; simp at hy, Below.refl _ _⟩
  case round =>
    obtain ⟨k, hk, rfl, HT, hbel⟩ := hrel
    have hbx : wr.heap[w.heap.size]? = some (bTab b (.slice p1 n1 p2)) := (hbel.block _ (by simp)).trans HR.out.2.2
    have HB : Hid (Below w.heap.size w wr) := nx_trans (nx_alloc _ _) hbel
    have hcell : wr.cell? ⟨w.heap.size, 1, none⟩ = some (.slice p1 n1 p2) := by simp [World.cell?, hbx]
    by_cases hlt : k < n1
    · obtain ⟨⟨x0, x1, x2, x3⟩, hp⟩ : ∃ p, ps[k]? = some p := ⟨_, List.getElem?_eq_getElem (by rw [HR.out.2.1]; exact hlt)⟩
      obtain ⟨bl, off, hao, hbl, c0, c1, c2, c3⟩ := pool_at (HR.out.1.nx hbel) hp
      subst hao
      simp only at c0 c1 c2 c3
      have hlti : (k : Int) < (n1 : Int) := by omega
      cases hq : (x0.toList == name.toList) with
      | true =>
        have HH : Hid (ps.findIdx? (isNameP name) = some k) := find_hit HT.out hp (by show (x0.toList == name.toList) = true; exact hq)
        clear hp hbx
        go_wp2_with fail
        go_ret
        exact ⟨by rw [HH.out]; rfl, HB.out⟩
      | false =>
        have HN : Hid (∀ y ∈ ps.take (k + 1), (isNameP name) y = false) := take_next HT.out hp (by show (x0.toList == name.toList) = false; exact hq)
        clear hp hbx
        go_wp2_with fail
        go_roundw
        case rel => exact ⟨k + 1, by omega, by go_num, HN.out, hbel⟩
        case measure => simp [intOf]; omega
    · have HM : Hid (ps.findIdx? (isNameP name) = none) := find_miss (fun y hy => HT.out y (by rw [List.take_of_length_le (by rw [HR.out.2.1]; omega)]; exact hy))
      clear hbx
      go_wp2_with fail
      go_ret
      exact ⟨by rw [HM.out]; rfl, HB.out⟩

end Lw
end Go.Proofs.Ythkilnhdhacpaaa
